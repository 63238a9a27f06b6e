"""Ways, reasons and way papers [7.1], [7.2], and [0.12], [0.17], [0.18] as they show them."""

from random import Random

from renamedown.decide import ways
from renamedown.decide.ways import any_reason, classes_of, is_reason, is_way_paper, leads_to, round_trip
from renamedown.decide.ways import way_paper, way_to
from renamedown.errors import InvalidOperation, InvalidRow, NoWay
from renamedown.moves.passings import after_moves, pass_back, pass_on
from renamedown.rows.rows import Row
from renamedown.rows.webs import groups_of
from tests.common import FULL, LOOP, STRANGE, TRIO, TWINS, Case
from tests.test_plain import random_moves, random_row
from tests.test_statements import all_rows, reached
from tests.test_webs import NO_ROWS, PARTED

APART = Row(5, ((0, 1, "a"), (3, 4, "c"), (0, 1, "b")))
SWAPPED = Row(3, ((0, 1, "b"), (1, 2, "a")))
ROWS = [value for value in STRANGE if isinstance(value, Row)]
SIZES = ((1, 0, 1), (2, 5, 1), (3, 6, 1), (5, 9, 1), (6, 12, 2), (9, 24, 3), (12, 24, 4), (12, 24, 2), (12, 24, 1),
         (12, 11, 1), (12, 23, 1), (2, 24, 1))


def walked(row, moves):
    """The row behind the moves, made one by one."""
    for index, way in moves:
        row = pass_on(row, index) if way == "on" else pass_back(row, index)
    return row


def sized(random, places, many, groups):
    """A row of this size, also one of a single place."""
    return random_row(random, places, many, "abc", groups) if places > 1 else Row(1)


def others_of(random, row):
    """Rows to which a row leads: behind many drawn moves, and with owners in another order besides."""
    if len(row) < 2:
        return [row]
    moved = after_moves(row, random_moves(random, row, 300))
    return [row, moved, after_moves(moved, random_moves(random, row, 2000))]


class LeadsTest(Case):
    def test_by_force_each_class_is_what_passings_reach(self):
        for places, many, letters in ((2, 5, "ab"), (3, 4, "ab"), (3, 5, "a"), (4, 3, "ab"), (4, 4, "a"), (4, 5, "a")):
            rows = all_rows(places, many, letters)
            indices = {row.steps: index for index, row in enumerate(rows)}
            left, classes = set(indices), []
            while left:
                found = reached(Row(places, min(left)))
                left -= found
                classes.append(tuple(sorted(indices[steps] for steps in found)))
            self.assertEqual(classes_of(tuple(rows)), tuple(sorted(classes)))
            for own in classes[:4]:
                for index in range(0, len(rows), 7):
                    self.assertIs(leads_to(rows[own[0]], rows[index]), index in own)
                    self.assertIs(any_reason(rows[own[0]], rows[index]) is None, index in own)

    def test_rows_behind_drawn_moves(self):
        random = Random(71)
        for size in SIZES:
            row = sized(random, *size)
            for other in others_of(random, row):
                self.assertIs(leads_to(row, other), True)
                self.assertIs(leads_to(other, row), True)

    def test_what_is_not_true(self):
        self.assertIs(leads_to(TWINS, TWINS.owned("acb")), False)
        left, right = Row(4, ((0, 1, "a"), (0, 1, "a"))), Row(4, ((2, 3, "a"), (2, 3, "a")))
        self.assertIs(leads_to(left, right), False)
        self.assertIs(leads_to(TRIO, TRIO.backwards()), False)
        self.assertIs(leads_to(TRIO, pass_on(TRIO, 0)), True)

    def test_the_same_steps_with_the_same_deed(self):
        steps = ((0, 1, "a"), (2, 3, "b"), (0, 1, "c"), (2, 3, "d"), (1, 2, "e"))
        other = (steps[1], steps[2], steps[3], steps[0], steps[4])
        self.assertEqual(Row(4, steps).deed, Row(4, other).deed)
        self.assertIs(leads_to(Row(4, steps), Row(4, other)), True)

    def test_rows_without_steps(self):
        self.assertIs(leads_to(Row(12), Row(12)), True)
        self.assertEqual(way_to(Row(12), Row(12)), ())
        self.assertIs(leads_to(Row(3), TRIO), False)
        self.assertIs(leads_to(Row(2), Row(2, ((0, 1, "a"), (0, 1, "a")))), False)


class WayTest(Case):
    def check_way(self, row, other):
        moves = way_to(row, other)
        self.assertIsInstance(moves, tuple)
        self.assertLessEqual(len(moves), 100000)
        self.assertEqual(walked(row, moves), other)
        self.assertEqual(way_to(row, other, only_on=False), moves)
        forward = way_to(row, other, only_on=True)
        self.assertEqual({way for _, way in forward} - {"on"}, set())
        self.assertEqual(after_moves(row, forward), other)
        paper = way_paper(row, other)
        self.assertEqual(paper[0], "moves")
        self.assertLessEqual(len(paper[1]), 100000)
        self.assertEqual(after_moves(row, paper[1]), other)
        self.assertIs(is_way_paper(row, other, paper), True)

    def test_small_rows_by_force(self):
        for row in (TRIO, TWINS, LOOP):
            for steps in sorted(reached(row))[::5]:
                self.check_way(row, Row(row.places, steps))

    def test_drawn_rows(self):
        random = Random(72)
        for size in SIZES:
            row = sized(random, *size)
            for other in others_of(random, row):
                self.check_way(row, other)

    def test_owners_of_a_group_in_another_order(self):
        random = Random(73)
        for row in (LOOP, FULL, random_row(random, 12, 24, "abcdef"), random_row(random, 7, 20, "ab")):
            self.check_way(row, row.owned("".join(step[2] for step in row.steps)[::-1]))
        self.check_way(PARTED, PARTED.owned("bacaaza"))

    def test_constant(self):
        self.assertEqual(ways.MAX_WAY, 200000)

    def test_no_way(self):
        for one, other in ((TWINS, APART), (TRIO, TRIO.backwards()), (Row(3), TRIO), (TWINS, TWINS.owned("acb"))):
            for forward in (False, True):
                error = self.told(NoWay, way_to, one, other, only_on=forward)
                self.assertIs(is_reason(one, other, error.reason), True)

    def test_only_on_is_a_boolean(self):
        for value in STRANGE:
            if not isinstance(value, bool):
                self.told(InvalidOperation, way_to, TRIO, SWAPPED, only_on=value)
                self.told(InvalidOperation, way_to, TWINS, APART, only_on=value)
                self.told(InvalidRow, way_to, TRIO, 0, only_on=value)

    def test_wrong_rows(self):
        for call in (leads_to, way_to, any_reason, way_paper):
            for value in NO_ROWS:
                self.told(InvalidRow, call, value, TRIO)
                self.told(InvalidRow, call, TRIO, value)
            self.told(InvalidOperation, call, TRIO, TRIO.wider(4))
            self.told(InvalidOperation, call, TRIO.wider(4), TRIO)


class ReasonTest(Case):
    def all_reasons(self, one, other):
        """All reasons, as the document tells them."""
        found = [("deed", place) for place in range(one.places) if one.deed[place] != other.deed[place]]
        left, right = groups_of(one), groups_of(other)
        for b in range(one.places):
            for a in range(b):
                if any({a, b} <= set(group) for group in left) != any({a, b} <= set(group) for group in right):
                    found.append(("joined", a, b))
        for place in range(one.places):
            here = [next(group for group in groups if place in group) for groups in (left, right)]
            for owner in "abcdefghijklmnopqrstuvwxyz":
                many = [len([step for step in row if step[0] in group and step[2] == owner])
                        for row, group in zip((one, other), here)]
                if many[0] != many[1]:
                    found.append(("owner", place, owner))
        return found

    def check_reasons(self, one, other):
        reasons = self.all_reasons(one, other)
        self.assertIs(leads_to(one, other), reasons == [])
        if reasons:
            self.assertIn(any_reason(one, other), reasons)
            self.assertIn(way_paper(one, other)[1], reasons)
        else:
            self.assertIsNone(any_reason(one, other))
        places = range(-1, one.places + 1)
        values = [("deed", x) for x in places] + [("joined", x, y) for x in places for y in places]
        values += [("owner", x, y) for x in places for y in ("a", "b", "z", "A", "")]
        for value in values:
            self.assertIs(is_reason(one, other, value), value in reasons, value)
            self.assertIs(is_way_paper(one, other, ("reason", value)), value in reasons)

    def test_reasons_by_force(self):
        rows = all_rows(3, 2, "ab") + all_rows(3, 3, "a") + [Row(3)]
        for one in rows[::4]:
            for other in rows[::3]:
                self.check_reasons(one, other)
        self.check_reasons(TWINS, APART)
        self.check_reasons(FULL, FULL.owned("a" * 24))
        self.check_reasons(Row(5), TWINS)
        self.check_reasons(Row(5, ((0, 1, "a"), (0, 1, "a"))), Row(5, ((3, 4, "a"), (3, 4, "a"))))

    def test_true_is_not_1(self):
        one, other = Row(2, ((0, 1, "a"),)), Row(2)
        for value in (("deed", 1), ("deed", 0), ("joined", 0, 1), ("owner", 1, "a")):
            self.assertIs(is_reason(one, other, value), True)
        for value in (("deed", True), ("deed", False), ("joined", 0, True), ("joined", False, 1), ("owner", True, "a"),
                      ("Owner", 1, "a"), ("owner", 1), ("owner", 1, "a", "a"), ("owner", 1, "A"), (None, 1, "a"), ("joined", 0),
                      ("joined", 0, 1, 1), ("joined", 1, 0), ("Deed", 1), ("owner", 1, ("a",)), ["deed", 1], ("deed", 1, 1), ("deed",), ("reason", ("deed", 1))):
            self.assertIs(is_reason(one, other, value), False)
            self.assertIs(is_way_paper(one, other, ("reason", value)), False)

    def test_words_of_papers(self):
        self.assertIs(is_way_paper(TWINS, APART, ("reason", ("owner", 0, "b"))), True)
        for word in ("Reason", "moves", "", "deed", None, 0, TWINS, ("reason",)):
            self.assertIs(is_way_paper(TWINS, APART, (word, ("owner", 0, "b"))), False)

    def test_every_value_is_judged(self):
        self.assertEqual(self.judged(is_reason, TWINS, APART), [])
        self.assertEqual(self.judged(is_way_paper, TWINS, APART), [])
        for word in ("moves", "reason", 0, None):
            self.assertEqual(self.judged(lambda value: is_way_paper(TWINS, APART, (word, value))), [])
        accepted = [value for value in STRANGE if is_way_paper(TRIO, TRIO, ("moves", value))]
        self.assertEqual(accepted, [()])

    def test_judging_raises_for_the_rows_only(self):
        for call in (is_reason, is_way_paper):
            for value in NO_ROWS:
                self.told(InvalidRow, call, value, TRIO, None)
                self.told(InvalidRow, call, TRIO, value, None)
            self.told(InvalidOperation, call, TRIO, Row(1), None)


class PaperTest(Case):
    def test_papers_of_moves(self):
        right = [((0, "on"),) * 3, ((0, "back"),) * 3, ((0, "on"),) * 9, ((0, "on"), (0, "back")) + ((0, "back"),) * 3]
        for moves in right:
            self.assertIs(is_way_paper(TRIO, SWAPPED, ("moves", moves)), True)
        for value in (("moves", right[0], None), ("moves", list(right[0])), ["moves", right[0]], ("Moves", right[0]),
                      ("moves", ((0, "on"),) * 4), ("moves", ((1, "on"),) * 3), ("moves", ((False, "on"),) * 3),
                      ("moves",), "moves", ("reason", right[0]), right[0], ("moves", ()), (TRIO, right[0])):
            self.assertIs(is_way_paper(TRIO, SWAPPED, value), False, value)

    def test_at_most_200000_moves(self):
        long = ((0, "on"), (0, "back")) * 100000
        self.assertIs(is_way_paper(TRIO, TRIO, ("moves", long)), True)
        self.assertIs(is_way_paper(TRIO, TRIO, ("moves", long + ((0, "on"),))), False)
        self.assertIs(is_way_paper(TRIO, TRIO, ("moves", ((0, "on"),) * 200004)), False)
        self.assertIs(is_way_paper(TRIO, TRIO, ("moves", ((0, "on"),) * 199998)), True)

    def test_a_row_that_leads_there_has_no_reason_paper(self):
        self.assertIs(is_way_paper(TRIO, SWAPPED, ("reason", None)), False)
        self.assertIs(is_way_paper(TRIO, SWAPPED, ("reason", ("deed", 0))), False)
        self.assertIs(is_way_paper(TWINS, APART, ("moves", ())), False)


class ManyRowsTest(Case):
    def test_classes_of_rows(self):
        self.assertEqual(classes_of(()), ())
        self.assertEqual(classes_of((TRIO, TRIO.wider(4), TRIO, Row(1))), ((0, 2), (1,), (3,)))
        rows = (TWINS, APART, LOOP, pass_on(LOOP, 2), TWINS, pass_back(LOOP, 0), APART)
        self.assertEqual(classes_of(rows), ((0, 4), (1, 6), (2, 3, 5)))

    def test_what_is_no_tuple_of_rows(self):
        for value in STRANGE:
            if value not in ((), (TRIO,), (TRIO, TRIO, TRIO)):
                self.told(InvalidOperation, classes_of, value)
        self.told(InvalidOperation, classes_of, [TRIO])
        self.told(InvalidOperation, classes_of, (TRIO, None))

    def check_trip(self, row, others):
        moves = round_trip(row, others)
        self.assertIsInstance(moves, tuple)
        self.assertLessEqual(len(moves), 200000)
        left, now = list(others), row
        for index, way in (None, None), *moves:
            if index is not None:
                now = pass_on(now, index) if way == "on" else pass_back(now, index)
            while left and now == left[0]:
                left.pop(0)
        self.assertEqual((left, now), ([], row))

    def test_round_trips(self):
        random = Random(74)
        for row in (TRIO, LOOP, TWINS, random_row(random, 12, 24, "abcd"), random_row(random, 12, 24, "ab", 3)):
            many = [after_moves(row, random_moves(random, row, 500)) for _ in range(10)]
            for others in ((), tuple(many[:1]), (row, row), tuple(many)):
                self.check_trip(row, others)
        self.check_trip(Row(1), (Row(1),) * 10)
        self.assertEqual(round_trip(TRIO, ()), ())

    def test_no_way_to_the_first_of_them(self):
        back = TRIO.backwards()
        error = self.told(NoWay, round_trip, TRIO, (SWAPPED, back, Row(3)))
        self.assertIs(is_reason(TRIO, back, error.reason), True)
        error = self.told(NoWay, round_trip, TRIO, (SWAPPED, TRIO, Row(3), back))
        self.assertIs(is_reason(TRIO, Row(3), error.reason), True)

    def test_wrong_stops(self):
        for value in NO_ROWS:
            self.told(InvalidRow, round_trip, value, None)
            self.told(InvalidOperation, round_trip, LOOP, (LOOP, value))
        for value in STRANGE:
            if value != ():
                self.told(InvalidOperation, round_trip, LOOP, value)
        self.told(InvalidOperation, round_trip, TRIO, [SWAPPED])
        self.told(InvalidOperation, round_trip, TRIO, (SWAPPED,) * 11)
        self.told(InvalidOperation, round_trip, TRIO, (TRIO.backwards(),) * 11)
        self.told(InvalidOperation, round_trip, TRIO, (TRIO.backwards(), TRIO.wider(4)))
