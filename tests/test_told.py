"""Wishes, reasons against them, and rows that fulfil them [11.1] to [11.4]."""

import copy
from itertools import permutations
from random import Random

from renamedown.base.deeds import rings_of
from renamedown.base.words import is_integer
from renamedown.decide.told import can_be, is_wish, is_wish_paper, least_numbers, reasons_against, row_for
from renamedown.decide.told import row_with, wish_of, wish_paper
from renamedown.decide.ways import leads_to
from renamedown.errors import InvalidDeed, InvalidOperation, InvalidRow, NoWay
from renamedown.rows.rows import Row
from renamedown.rows.webs import groups_of, is_joined, owner_counts
from tests.common import FULL, LONG, LONGEST, LOOP, STRANGE, TRIO, TWINS, Case
from tests.test_passings import NO_INTEGERS
from tests.test_plain import partings, random_row
from tests.test_statements import all_rows
from tests.test_webs import NO_ROWS, PARTED

WISH = ((1, 0, 2), ((0, 1), (2,)), ({"a": 1}, {}))
ODD = ((1, 0), ((0, 1),), ({"a": 2},))
WRONG = [(), WISH[:2], WISH + ((),), list(WISH), None, WISH[0], TRIO, ((1, 0, 3), WISH[1], WISH[2]),
         ((1, 0), WISH[1], WISH[2]), (list(WISH[0]), WISH[1], WISH[2]), (WISH[0], [(0, 1), (2,)], WISH[2]),
         (WISH[0], ([0, 1], (2,)), WISH[2]), (WISH[0], ((1, 0), (2,)), WISH[2]), (WISH[0], ((2,), (0, 1)), ({}, {})),
         (WISH[0], ((0, 1), (2,), ()), ({}, {}, {})), (WISH[0], ((0, 1),), ({},)), (WISH[0], ((0, 1), (1, 2)), WISH[2]),
         (WISH[0], ((False, True), (2,)), WISH[2]), (WISH[0], WISH[1], [{}, {}]), (WISH[0], WISH[1], ({},)),
         (WISH[0], WISH[1], ({}, {}, {})), (WISH[0], WISH[1], ({}, ())), (WISH[0], WISH[1], ({}, None)),
         (WISH[0], WISH[1], ({"A": 1}, {})), (WISH[0], WISH[1], ({"ab": 1}, {})), (WISH[0], WISH[1], ({0: 1}, {})),
         (WISH[0], WISH[1], ({"a": 0}, {})), (WISH[0], WISH[1], ({"a": 25}, {})), (WISH[0], WISH[1], ({"a": True}, {})),
         (WISH[0], WISH[1], ({"a": "1"}, {})), (WISH[0], WISH[1], ({"a": LONG}, {})),
         (WISH[0], WISH[1], ({"a": LONGEST}, {})), (WISH[0], WISH[1], ({"a": -1}, {})), ((), (), ()),
         (WISH[0], WISH[1], ({("a",): 1}, {})), (WISH[0], ((0, 1), (2, 3)), ({}, {})), ((True, False), ((0, 1),), ({},))]


def all_reasons(wish):
    """All reasons, kind by kind, as the document tells them."""
    deed, groups, owners = wish
    own = {place: group for group in groups for place in group}
    many = {group: sum(counts.values()) for group, counts in zip(groups, owners)}
    found = [("apart", x) for x in range(len(deed)) if own[deed[x]] != own[x]]
    found += [("alone", group) for group in groups if len(group) == 1 and many[group]]
    spare = {}
    for group in groups:
        rings = [ring for ring in rings_of(deed) if set(ring) & set(group)]
        if len(group) > 1 and all(set(ring) <= set(group) for ring in rings):
            spare[group] = many[group] - (len(group) + len(rings) - 2)
    found += [("few", group) for group in groups if spare.get(group, 0) < 0]
    found += [("odd", group) for group in groups if spare.get(group, 0) % 2]
    return tuple(found + [("long", sum(many.values()))] * (sum(many.values()) > 24))


def wishes(places, most):
    """All wishes of so many places with at most so many steps, all owned by one."""
    for deed in permutations(range(places)):
        for groups in partings(tuple(range(places))):
            for number in range((most + 1) ** len(groups)):
                numbers = [number // (most + 1) ** k % (most + 1) for k in range(len(groups))]
                if sum(numbers) <= most:
                    yield (deed, groups, tuple({"a": many} if many else {} for many in numbers))


def drawn_rows():
    """Rows of several sizes, with one group and with more."""
    random = Random(111)
    rows = [TRIO, TWINS, LOOP, FULL, PARTED, Row(1), Row(12)]
    for places, many, groups in ((2, 7, 1), (4, 9, 1), (5, 4, 2), (7, 12, 2), (12, 24, 1), (12, 24, 2), (12, 24, 4),
                                 (12, 11, 1), (12, 12, 3)):
        rows += [random_row(random, places, many, "abc", groups) for _ in range(4)]
    return rows


class WishTest(Case):
    def test_wishes_of_rows(self):
        for row in drawn_rows():
            deed, groups, owners = wish_of(row)
            self.assertEqual((deed, groups), (row.deed, groups_of(row)))
            self.assertEqual(owners, tuple(owner_counts(row, group) for group in groups))
            for counts in owners:
                self.assertEqual(list(counts), sorted(counts))
            self.assertIs(is_wish((deed, groups, owners)), True)

    def test_a_told_wish_is_nobody_elses(self):
        for counts in wish_of(TWINS)[2]:
            counts["z"] = 7
        self.assertEqual(wish_of(TWINS)[2], ({"a": 1, "c": 1}, {}, {"b": 1}))

    def test_what_is_a_wish(self):
        for value in (WISH, ODD, ((0,), ((0,),), ({},)), ((0,), ((0,),), ({"z": 24},)), ((1, 0), ((0,), (1,)), ({}, {})),
                      (WISH[0], WISH[1], ({"b": 24, "a": 24}, {"z": 1}))):
            self.assertIs(is_wish(value), True)
        for value in WRONG:
            self.assertIs(is_wish(value), False, value)

    def test_every_value_is_judged(self):
        self.assertEqual(self.judged(is_wish), [])

    def test_what_is_no_row(self):
        for value in NO_ROWS:
            self.told(InvalidRow, wish_of, value)

    def test_what_is_no_wish(self):
        for value in WRONG + list(STRANGE):
            for call in (can_be, row_for, reasons_against, wish_paper):
                self.told(InvalidOperation, call, value)
            self.told(InvalidOperation, is_wish_paper, value, None)
            self.told(InvalidOperation, row_with, value, None, None)

    def test_wishes_are_not_changed(self):
        wish = (WISH[0], WISH[1], ({"b": 2, "a": 1}, {}))
        kept = copy.deepcopy(wish)
        row_for(wish), wish_paper(wish), row_with(wish, 1, (0, 1, "b")), is_wish_paper(wish, None)
        self.assertEqual((wish, list(wish[2][0])), (kept, ["b", "a"]))


class ReasonTest(Case):
    def check_wish(self, wish):
        reasons = all_reasons(wish)
        self.assertEqual(reasons_against(wish), reasons)
        self.assertIs(can_be(wish), reasons == ())
        paper = wish_paper(wish)
        self.assertIs(is_wish_paper(wish, paper), True)
        for reason in reasons:
            self.assertIs(is_wish_paper(wish, reason), True)
        if reasons:
            self.assertEqual(self.told(NoWay, row_for, wish).reason, reasons[0])
            self.assertIn(paper, reasons)
        else:
            self.assertEqual(wish_of(row_for(wish)), wish)
            self.assertEqual(paper[0], "row")
            self.assertEqual(wish_of(paper[1]), wish)

    def test_by_force_rows_are_there_exactly_if_there_is_no_reason(self):
        for places, most in ((1, 3), (2, 5), (3, 5), (4, 4)):
            found = {repr(wish_of(row)) for many in range(most + 1) for row in all_rows(places, many, "a")}
            if places == 1:
                found = {repr(wish_of(Row(1)))}
            for wish in wishes(places, most):
                self.assertIs(can_be(wish), repr(wish) in found)
                self.check_wish(wish)

    def test_several_owners(self):
        for owners in ({"a": 1, "b": 1, "z": 1}, {"z": 2, "a": 1}, {"a": 1, "b": 1}, {}, {"c": 24}):
            self.check_wish(((1, 0, 2), ((0, 1), (2,)), (owners, {})))
            self.check_wish(((1, 2, 0), ((0, 1, 2),), (owners,)))

    def test_all_kinds(self):
        deed = (0, 2, 1, 4, 3, 5, 6)
        wish = (deed, ((0,), (1, 2), (3, 5), (4, 6)), ({"a": 1}, {"b": 2}, {}, {"c": 24}))
        self.assertEqual(reasons_against(wish), (("apart", 3), ("apart", 4), ("alone", (0,)), ("odd", (1, 2)), ("long", 27)))
        wish = (deed, ((0, 5), (1, 2), (3, 4, 6)), ({"a": 1}, {}, {"c": 2}))
        self.assertEqual(reasons_against(wish), (("few", (0, 5)), ("few", (1, 2)), ("few", (3, 4, 6)), ("odd", (0, 5)),
                                                 ("odd", (1, 2)), ("odd", (3, 4, 6))))

    def test_24_steps_and_more(self):
        for owners, reasons in (({"a": 24}, ()), ({"a": 13, "b": 11}, ()), ({"a": 24, "b": 2}, (("long", 26),)),
                                ({"a": 24, "b": 1}, (("odd", (0, 1)), ("long", 25)))):
            wish = ((0, 1), ((0, 1),), (owners,))
            self.assertEqual(reasons_against(wish), reasons)
            self.check_wish(wish)
        wish = ((0, 1, 2, 3), ((0, 1), (2, 3)), ({"a": 12}, {"a": 12}))
        self.check_wish(wish)
        self.check_wish((wish[0], wish[1], ({"a": 12}, {"a": 14})))

    def test_drawn_rows(self):
        for row in drawn_rows():
            self.check_wish(wish_of(row))
            self.assertIs(leads_to(row, row_for(wish_of(row))), True)

    def test_wish_papers(self):
        for value in (("row", TWINS), ("row", Row(5, ((0, 1, "c"), (0, 1, "a"), (3, 4, "b"))))):
            self.assertIs(is_wish_paper(wish_of(TWINS), value), True)
        for value in (("row", TRIO), ("row", TWINS.owned("acb")), ["row", TWINS], ("row", TWINS, 0), ("Row", TWINS),
                      TWINS, ("row", TWINS.steps), ("row",), ("row", TWINS.wider(6)), (TWINS, TWINS), ("few", (0, 1))):
            self.assertIs(is_wish_paper(wish_of(TWINS), value), False, value)
        for value in (("odd", (0, True)), ("odd", (False, 1)), ("odd", [0, 1]), ("odd",), ["odd", (0, 1)], ("few", (0, 1)),
                      ("odd", (0, 1), 0), ("odd", (1, 0)), ("row", Row(2, ((0, 1, "a"), (0, 1, "a")))), ("odd", TRIO)):
            self.assertIs(is_wish_paper(ODD, value), False, value)
        self.assertIs(is_wish_paper(ODD, ("odd", (0, 1))), True)
        wish = ((0, 2, 1), ((0,), (1,), (2,)), ({"a": 1}, {}, {}))
        for value, right in ((("apart", 1), True), (("apart", True), False), (("apart", 0), False),
                             (("alone", (0,)), True), (("alone", (False,)), False), (("alone", 0), False)):
            self.assertIs(is_wish_paper(wish, value), right)
        long = ((0, 1), ((0, 1),), ({"a": 24, "b": 2},))
        self.assertEqual([is_wish_paper(long, ("long", many)) for many in (24, 25, 26, "26")], [False, False, True, False])

    def test_every_value_is_a_paper_or_none(self):
        for wish in (WISH, ODD, wish_of(FULL)):
            self.assertEqual(self.judged(is_wish_paper, wish), [])
            for word in ("row", "odd", "long", "apart", None):
                told = [value for value in STRANGE if is_wish_paper(wish, (word, value))]
                self.assertEqual(told, [(0, 1)] if (wish, word) == (ODD, "odd") else [])


class NumbersTest(Case):
    def test_by_force(self):
        for places in (1, 2, 3, 4):
            most = 5 if places == 4 else 6
            rows = [row for many in range(most + 1) for row in all_rows(places, many, "a") if places > 1] or [Row(1)]
            least = {}
            for row in rows:
                if is_joined(row):
                    least[row.deed] = min(len(row), least.get(row.deed, 99))
            for deed, many in least.items():
                if many < most or places < 4:
                    self.assertEqual(least_numbers(deed, (tuple(range(places)),)), (many,))

    def test_several_groups(self):
        self.assertEqual(least_numbers((0, 2, 1, 4, 3, 5), ((0,), (1, 2, 3, 4), (5,))), (0, 4, 0))
        self.assertEqual(least_numbers(tuple(range(12)), (tuple(range(12)),)), (22,))
        for row in drawn_rows():
            numbers = least_numbers(row.deed, groups_of(row))
            for group, many, counts in zip(groups_of(row), numbers, wish_of(row)[2]):
                rings = [ring for ring in rings_of(row.deed) if ring[0] in group]
                self.assertEqual(many, len(group) + len(rings) - 2)
                self.assertLessEqual(many, sum(counts.values()))
                self.assertEqual((sum(counts.values()) - many) % 2, 0)

    def test_no_way(self):
        self.assertEqual(self.told(NoWay, least_numbers, (0, 2, 1), ((0,), (1,), (2,))).reason, ("apart", 1))
        self.assertEqual(self.told(NoWay, least_numbers, (3, 1, 2, 0), ((0, 1), (2, 3))).reason, ("apart", 0))

    def test_wrong_deeds_and_groups(self):
        for value in [value for value in WRONG if value != WISH[0]] + [(0, 2), [0], (True, 0), (1,)]:
            self.told(InvalidDeed, least_numbers, value, None)
        for value in STRANGE:
            self.told(InvalidOperation, least_numbers, (1, 2, 0), value)
        for groups in (((0, 1),), ((0, 1), (2, 3)), ((1, 0), (2,)), ((2,), (0, 1)), ((0, 1), (1, 2)), ((0, 1), (2,), ()),
                       [(0, 1), (2,)], ((0, True), (2,))):
            self.told(InvalidOperation, least_numbers, (1, 2, 0), groups)
            self.told(InvalidOperation, least_numbers, (1, 0, 2), groups)


class StepTest(Case):
    def check_row(self, wish, index, step):
        row = row_with(wish, index, step)
        self.assertEqual(row[index], step)
        self.assertEqual(wish_of(row), wish)

    def test_each_step_at_each_index_of_small_rows(self):
        rows = [TRIO, TWINS, LOOP, Row(2, ((0, 1, "a"),)), Row(4, ((0, 1, "a"), (1, 2, "b"), (2, 3, "c")))]
        rows += all_rows(3, 4, "ab")[::50] + all_rows(4, 5, "a")[::300] + [Row(4, ((0, 1, "a"),) * 2 + ((2, 3, "b"),) * 3)]
        for row in rows:
            wish = wish_of(row)
            for index in range(len(row)):
                for a in range(row.places):
                    for b in range(a + 1, row.places):
                        for owner in "abc":
                            self.check_step(wish, index, (a, b, owner))

    def check_step(self, wish, index, step):
        right = [step[1] in group and step[2] in counts for group, counts in zip(*wish[1:]) if step[0] in group]
        if right == [True]:
            self.check_row(wish, index, step)
        else:
            self.assertEqual(self.told(NoWay, row_with, wish, index, step).reason, step)

    def test_drawn_rows(self):
        random = Random(112)
        for row in drawn_rows():
            wish = wish_of(row)
            for group, counts in zip(wish[1], wish[2]):
                for _ in range(6 if len(group) > 1 else 0):
                    a, b = sorted(random.sample(group, 2))
                    self.check_row(wish, random.randrange(len(row)), (a, b, random.choice(list(counts))))

    def test_rows_with_as_few_steps_as_possible(self):
        random = Random(113)
        for _ in range(60):
            deed = tuple(random.sample(range(6), 6))
            wish = (deed, (tuple(range(6)),), ({"q": least_numbers(deed, (tuple(range(6)),))[0]},))
            for a in range(6):
                for b in range(a + 1, 6):
                    self.check_row(wish, random.randrange(wish[2][0]["q"]), (a, b, "q"))

    def test_the_first_and_the_last_index(self):
        wish = wish_of(FULL)
        for index in (0, 23):
            self.check_row(wish, index, (3, 9, "c"))
        self.assertEqual(self.refused(row_with, wish, 24, (3, 9, "c")), 24)
        for index in (2, 23):
            self.assertEqual(self.refused(row_with, wish_of(TRIO), index, (0, 1, "a")), index)
            self.assertEqual(self.refused(row_with, wish_of(TRIO), index, (0, 1, "z")), index)
        self.assertEqual(self.refused(row_with, wish_of(Row(2)), 0, (0, 1, "a")), 0)

    def test_errors_in_their_order(self):
        for value in NO_INTEGERS + [-1, 24, 25, LONG]:
            self.assertIs(self.refused(row_with, ODD, value, None), value)
        for value in STRANGE:
            if value != (0, 1, "a"):
                self.told(InvalidOperation, row_with, ODD, 23, value)
        self.told(InvalidOperation, row_with, ODD, 0, (0, 2, "a"))
        self.assertEqual(self.told(NoWay, row_with, ODD, 23, (0, 1, "z")).reason, ("odd", (0, 1)))
        self.assertEqual(self.refused(row_with, wish_of(TWINS), 3, (0, 2, "a")), 3)
        for step in ((0, 2, "a"), (0, 1, "b"), (3, 4, "a"), (2, 3, "b"), (0, 1, "z")):
            self.assertEqual(self.told(NoWay, row_with, wish_of(TWINS), 0, step).reason, step)
        self.assertTrue(all(is_integer(value) is False for value in NO_INTEGERS))
