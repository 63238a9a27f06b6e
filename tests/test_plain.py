"""Signs, plain rows and doubles [6.1] to [6.4]."""

import unittest
from itertools import permutations
from random import Random

from renamedown.base.deeds import exchange_deed, behind, least_steps, rest_deed, rings_of
from renamedown.base.words import is_integer, renamed_exchange
from renamedown.errors import InvalidDeed, InvalidOperation, InvalidRow
from renamedown.moves.passings import after_moves, pass_back, pass_on, rows_along
from renamedown.moves.plain import double_led, double_renamed, is_double_at, is_plain, is_sign, moves_to_plain
from renamedown.moves.plain import plain_of, plain_row, sign_of, singles_of
from renamedown.rows.rows import Row
from renamedown.rows.webs import groups_of, steps_in
from tests.common import FULL, LONG, LONGEST, LOOP, STRANGE, TRIO, TWINS, Case, all_but
from tests.test_passings import owned_by_force
from tests.test_webs import NO_ROWS, PARTED, rows_by_force

SAMPLES = (TRIO, TWINS, LOOP, FULL, PARTED, Row(1), Row(12))
NO_INTEGERS = [value for value in STRANGE if not is_integer(value)]
LETTERS = "abcdefghijklmnopqrstuvwxyz"
NO_DEEDS = all_but((0,), (0, 1), (1, 0)) + [(0, 2), (0, 0), (False, 1), [0, 1], tuple(range(13)), "01"]


def random_row(random, places, many, letters, groups=1):
    """A row of so many places and steps, whose places are parted into so many sets at least."""
    while True:
        part = [random.randrange(groups) for _ in range(places)]
        pairs = [(a, b) for b in range(places) for a in range(b) if part[a] == part[b]]
        if pairs:
            return Row(places, tuple((*random.choice(pairs), random.choice(letters)) for _ in range(many)))


def random_moves(random, row, many):
    """So many moves of a row with at least two steps."""
    return tuple((random.randrange(len(row) - 1), random.choice(("on", "back"))) for _ in range(many))


def plain_by_words(row):
    """The plain row, put together as the document tells it."""
    steps = []
    for group in groups_of(row):
        letters = sorted(row[index][2] for index in steps_in(row, group))
        heads = [min(ring) for ring in rings_of(row.deed) if min(ring) in group]
        singles = [pair for pair in singles_of(row.deed) if pair[0] in group]
        exchanges = []
        for head in heads[1:]:
            exchanges += [(heads[0], head), (heads[0], head)]
        while len(exchanges) + len(singles) < len(letters):
            exchanges.append((group[0], group[1]))
        exchanges += singles
        steps += [(*pair, letter) for pair, letter in zip(exchanges, letters)]
    return Row(row.places, tuple(steps))


def partings(places):
    """All partings of the places into groups, in their order."""
    if not places:
        return [()]
    found = []
    for rest in partings(places[1:]):
        found.append(((places[0],),) + rest)
        for at, group in enumerate(rest):
            found.append(((places[0],) + group,) + rest[:at] + rest[at + 1:])
    return [tuple(sorted(parting)) for parting in found]


class SignsTest(Case):
    def test_signs(self):
        self.assertEqual(sign_of(PARTED), (PARTED.deed, ((0, 5, 6), (1, 2, 8), (3,), (4, 7)), ("aaa", "abc", "", "z")))
        self.assertEqual(sign_of(Row(1)), ((0,), ((0,),), ("",)))
        self.assertEqual(sign_of(LOOP), ((0, 3, 1, 2), ((0, 1, 2, 3),), ("aabb",)))
        self.assertEqual(sign_of(Row(2, tuple((0, 1, owner) for owner in "zazbz")))[2], ("abzzz",))

    def test_signs_of_rows_are_signs(self):
        for row in list(SAMPLES) + list(owned_by_force(4, 3)):
            self.assertIs(is_sign(sign_of(row)), True)

    def test_signs_by_force(self):
        for places in (1, 2, 3):
            found = {sign_of(row) for row in rows_by_force(places, 5)}
            for deed in permutations(range(places)):
                for groups in partings(tuple(range(places))):
                    for many in range(6):
                        for other in range(3):
                            owners = ("a" * many,) + ("a" * other,) * (len(groups) - 1)
                            if sum(map(len, owners)) < 6:
                                self.assertIs(is_sign((deed, groups, owners)), (deed, groups, owners) in found)
                                self.assertIs(is_sign((deed, groups, owners[::-1])),
                                              (deed, groups, owners[::-1]) in found)

    def test_every_value_is_judged(self):
        self.assertEqual(self.judged(is_sign), [((0, 1), ((0, 1),), ("aa",))])

    def test_at_most_24_steps(self):
        self.assertIs(is_sign(((0, 1), ((0, 1),), ("a" * 24,))), True)
        self.assertIs(is_sign(((0, 1), ((0, 1),), ("a" * 26,))), False)
        both = ((0, 1, 2, 3), ((0, 1), (2, 3)))
        self.assertIs(is_sign(both + (("a" * 12, "b" * 12),)), True)
        self.assertIs(is_sign(both + (("a" * 14, "b" * 12),)), False)

    def test_what_is_no_sign(self):
        for value in self.wrong_signs():
            self.assertIs(is_sign(value), False, value)
            self.told(InvalidOperation, plain_of, value)

    def wrong_signs(self):
        deed, groups, owners = sign_of(TWINS)
        parts = [((1, 0, 2, 4, 3), groups, owners), (deed, groups, owners + ("",)), (deed, groups, owners[:2]),
                 (deed, groups, ("ca", "", "b")), (deed, groups, ("aC", "", "b")), (deed, groups, ("a", "", "b")),
                 (deed, groups, ("", "", "b")), (deed, groups, ("ac", "", "")), (deed, groups, ("ac", "aa", "b")),
                 (deed, groups, ("ac", "", "bb")), (deed, groups, [*owners]), (deed, [*groups], owners),
                 (deed, groups[::-1], owners), (deed, ((1, 0), (2,), (3, 4)), owners), ([*deed], groups, owners),
                 (deed, ((0, True), (2,), (3, 4)), owners), (deed, ((0, 1), (2,), (3, 3)), owners),
                 (deed, ((0, 1), (2,)), ("ac", "")), (deed, ((0, 1), (2,), (3, 4), ()), owners + ("",)),
                 (deed, ((0, 1), (2, 3), (4,)), ("ac", "b", "")), (deed, ((0, 1), [2], (3, 4)), owners),
                 (deed, groups, (("a", "c"), "", "b")), (deed, groups, ("ac", None, "b")), (deed, groups),
                 (deed, groups, owners, ()), [deed, groups, owners], (deed, ((0, 1, 2), (3, 4)), ("ac", "b")),
                 ((0, 1, 2, 3, True), groups, owners), (deed, groups, ("ac", "", "b" * 25)),
                 (deed, ((0, 1), (2,), (3, LONG)), owners), (deed, groups, "abc"), (deed, groups, ("AC", "", "b")),
                 (deed, groups, ("a~", "", "b")), (deed, groups[::-1], owners[::-1]), (deed, ((0, 1), 2, (3, 4)), owners),
                 (deed, ((0, 1), None, (3, 4)), owners), (deed, (TRIO, (2,), (3, 4)), owners),
                 (deed, ("01", "2", "34"), owners), (deed, ((),) + groups, ("",) + owners),
                 (deed, (groups, groups, groups), owners), (deed, {0: (0, 1), 1: (2,), 2: (3, 4)}, owners)]
        return parts + [value for value in STRANGE if repr(value) != "((0, 1), ((0, 1),), ('aa',))"]


class SinglesTest(Case):
    def test_singles(self):
        self.assertEqual(singles_of(tuple(range(12))), ())
        self.assertEqual(singles_of((1, 2, 3, 0)), ((0, 3), (1, 3), (2, 3)))
        self.assertEqual(singles_of((3, 0, 1, 2)), ((0, 1), (1, 2), (2, 3)))
        self.assertEqual(singles_of((4, 3, 2, 1, 0)), ((0, 4), (1, 3)))

    def test_singles_by_force(self):
        for places in range(1, 6):
            for deed in permutations(range(places)):
                singles, done = singles_of(deed), rest_deed(places)
                self.assertEqual(len(singles), least_steps(deed))
                self.assertEqual([pair[0] for pair in singles], sorted({pair[0] for pair in singles}))
                for a, x in singles:
                    # What is left behind the singles so far takes the thing that lies at x now to a.
                    thing = done.index(x)
                    self.assertEqual(deed[thing], a)
                    done = behind(done, exchange_deed(places, (a, x)))
                self.assertEqual(done, deed)

    def test_what_is_no_deed(self):
        for value in NO_DEEDS:
            self.told(InvalidDeed, singles_of, value)


class PlainTest(Case):
    def test_plain_rows(self):
        self.assertEqual(plain_row(PARTED).lines, ("0 5 a", "0 5 a", "5 6 a", "1 8 a", "1 8 b", "1 2 c", "4 7 z"))
        row = Row(6, ((1, 4, "z"), (1, 3, "b"), (3, 4, "a"), (1, 4, "c"), (4, 5, "a"), (4, 5, "y"), (0, 2, "k")))
        self.assertEqual(row.deed, (2, 3, 0, 4, 1, 5))
        self.assertEqual(plain_row(row).lines, ("0 2 k", "1 5 a", "1 5 a", "1 3 b", "1 3 c", "1 4 y", "3 4 z"))
        for row in list(SAMPLES) + list(owned_by_force(4, 4)):
            self.assertEqual(plain_row(row), plain_by_words(row))
            self.assertEqual(plain_of(sign_of(row)), plain_row(row))
            self.assertEqual(sign_of(plain_row(row)), sign_of(row))

    def test_which_rows_are_plain(self):
        for row in list(SAMPLES) + list(owned_by_force(4, 3)):
            self.assertIs(is_plain(row), row == plain_by_words(row))
            self.assertIs(is_plain(plain_row(row)), True)
        self.assertIs(is_plain(TWINS), False)
        self.assertIs(is_plain(Row(12)), True)

    def test_what_is_no_row(self):
        for value in NO_ROWS:
            for call in (sign_of, plain_row, is_plain, moves_to_plain):
                self.told(InvalidRow, call, value)
            for other in (0, None, -1):
                self.told(InvalidRow, is_double_at, value, other)
                self.told(InvalidRow, double_led, value, other, other)
                self.told(InvalidRow, double_renamed, value, other, other)


class LeadingTest(Case):
    def check_led_to_plain(self, row):
        moves = moves_to_plain(row)
        self.assertLessEqual(len(moves), 100000)
        for move, (index, way) in zip(moves, moves[1:]):
            self.assertNotEqual(move, (index, "on" if way == "back" else "back"))
        self.assertEqual(after_moves(row, moves), plain_by_words(row), row.steps)
        return moves

    def test_by_force(self):
        rows = list(owned_by_force(3, 5)) + list(owned_by_force(4, 5)) + list(rows_by_force(3, 6))
        for row in rows + list(SAMPLES):
            self.check_led_to_plain(row)

    def test_passing_by_passing(self):
        for row in (LOOP, PARTED, TWINS + TWINS):
            for index, way in self.check_led_to_plain(row):
                row = pass_on(row, index) if way == "on" else pass_back(row, index)
            self.assertTrue(is_plain(row))

    def test_all_sizes(self):
        random = Random(1)
        for places in range(2, 13):
            for many in range(25):
                self.check_led_to_plain(random_row(random, places, many, LETTERS))

    def test_twelve_places_and_24_steps(self):
        random = Random(2)
        for number in range(120):
            letters = ("a", "ab", LETTERS)[number % 3]
            row = random_row(random, 12, 24, letters, groups=1 + number % 4)
            self.check_led_to_plain(row)

    def test_rows_behind_other_moves(self):
        random = Random(3)
        for number in range(40):
            row = random_row(random, 4 + number % 9, 24 - number % 5, LETTERS, groups=1 + number % 3)
            moved = after_moves(row, random_moves(random, row, 300))
            self.check_led_to_plain(moved)
            self.assertEqual(plain_row(moved), plain_row(row))

    def test_rows_of_one_form(self):
        line = [(place, place + 1) for place in range(11)]
        star = [(0, place) for place in range(1, 12)]
        forms = ([(0, 1)] * 12 + line, line + line[::-1], line + line, [pair for pair in line for _ in range(2)],
                 star + star, star + star[::-1], [(0, 1)] * 24, [(10, 11)] * 13 + line, line[::-1], star[::-1],
                 [(0, 1), (10, 11)] * 12, [(place, 11) for place in range(11)] * 2 + [(4, 5)] * 2)
        for exchanges in forms:
            for letters in (LETTERS, LETTERS[::-1], "ba" * 12, "b" * 12 + "a" * 12, "a" * 24):
                row = Row(12, tuple((*pair, letter) for pair, letter in zip(exchanges, letters)))
                self.check_led_to_plain(row)
                self.check_led_to_plain(row.backwards())
                self.check_led_to_plain(plain_row(row).owned(letters[:len(row)]))

    def test_rows_without_steps(self):
        for places in range(1, 13):
            self.assertEqual(moves_to_plain(Row(places)), ())

    def test_equal_calls_return_equal_moves(self):
        self.assertEqual(moves_to_plain(LOOP), moves_to_plain(Row(4, LOOP.steps)))


PAIR = Row(4, ((0, 1, "a"), (0, 1, "b"), (1, 2, "c"), (2, 3, "d")))


def rows_with_doubles(random, many):
    """Rows with a double, and its index."""
    for number in range(many):
        row = random_row(random, 3 + number % 10, 2 + number % 23, LETTERS)
        index = random.randrange(len(row) - 1)
        yield row.without_step(index + 1).with_step(index + 1, (*row[index][:2], "z")), index


class DoublesTest(Case):
    def check_told(self, row, pair, steps):
        behind_all, moves = pair
        self.assertLessEqual(len(moves), 100)
        self.assertEqual(behind_all, Row(row.places, tuple(steps)))
        self.assertEqual(rows_along(row, moves)[-1], behind_all)
        for index, way in moves:
            row = pass_on(row, index) if way == "on" else pass_back(row, index)
        self.assertEqual(row, behind_all)

    def test_where_doubles_are(self):
        self.assertEqual([is_double_at(PAIR, index) for index in range(3)], [True, False, False])
        self.assertIs(is_double_at(Row(2, ((0, 1, "a"),) * 24), 22), True)

    def test_led_doubles(self):
        for row, source in rows_with_doubles(Random(4), 60):
            rest = list(row.steps[:source] + row.steps[source + 2:])
            for target in range(len(row) - 1):
                steps = rest[:target] + [row[source], row[source + 1]] + rest[target:]
                self.check_told(row, double_led(row, source, target), steps)

    def test_renamed_doubles(self):
        for row, index in rows_with_doubles(Random(5), 60):
            for other in range(len(row)):
                if other not in (index, index + 1):
                    steps = list(row.steps)
                    pair = renamed_exchange(row[index][:2], row[other][:2])
                    steps[index:index + 2] = [(*pair, row[index][2]), (*pair, row[index + 1][2])]
                    self.check_told(row, double_renamed(row, index, other), steps)

    def test_the_farthest_doubles(self):
        line = tuple((place % 11, place % 11 + 1, LETTERS[place]) for place in range(22))
        ahead = Row(12, ((0, 2, "y"), (0, 2, "z")) + line)
        self.check_told(ahead, double_led(ahead, 0, 22), line + ahead.steps[:2])
        self.check_told(ahead, double_renamed(ahead, 0, 23), ahead.steps)
        last = Row(12, line + ((0, 2, "y"), (0, 2, "z")))
        self.check_told(last, double_led(last, 22, 0), last.steps[22:] + line)
        self.check_told(last, double_renamed(last, 22, 0), line + ((1, 2, "y"), (1, 2, "z")))

    def test_wrong_indices(self):
        for value in NO_INTEGERS + [-1, 3, 4, LONGEST]:
            self.assertIs(self.refused(is_double_at, PAIR, value), value)
            for other in (0, 1, -1, None):
                self.assertIs(self.refused(double_led, PAIR, value, other), value)
                self.assertIs(self.refused(double_renamed, PAIR, value, other), value)
            for index in (0, 1):
                self.assertIs(self.refused(double_led, PAIR, index, value), value)
        for value in NO_INTEGERS + [-1, 4, LONGEST]:
            for index in (0, 1):
                self.assertIs(self.refused(double_renamed, PAIR, index, value), value)
        for row in (Row(3), TRIO.part(0, 1)):
            self.assertEqual(self.refused(is_double_at, row, 0), 0)

    def test_no_double(self):
        for index in (1, 2):
            self.told(InvalidOperation, double_led, PAIR, index, 0)
            self.told(InvalidOperation, double_led, PAIR, index, index)
            self.told(InvalidOperation, double_renamed, PAIR, index, 0)

    def test_other_step_is_one_of_the_double(self):
        self.told(InvalidOperation, double_renamed, PAIR, 0, 0)
        self.told(InvalidOperation, double_renamed, PAIR, 0, 1)
        self.assertEqual(double_renamed(PAIR, 0, 3)[0], PAIR)
        triple = Row(2, ((0, 1, "a"), (0, 1, "b"), (0, 1, "c")))
        self.assertEqual(double_renamed(triple, 0, 2)[0], triple)
        self.told(InvalidOperation, double_renamed, triple, 1, 2)


if __name__ == "__main__":
    unittest.main()
