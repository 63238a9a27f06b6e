"""Owners that fit, and moves that put them so [8.1]."""

from itertools import permutations, product
from random import Random

from renamedown.decide.owners import count_owners, do_fit, each_owners, exchange_owners, index_of_owners
from renamedown.decide.owners import least_owners, moves_to_owners, owners_at
from renamedown.decide.ways import leads_to
from renamedown.errors import InvalidOperation, InvalidRow
from renamedown.rows.rows import Row
from renamedown.rows.webs import group_of
from tests.common import FULL, LONG, LOOP, STRANGE, TRIO, TWINS, Case
from tests.test_passings import NO_INTEGERS
from tests.test_plain import random_row
from tests.test_statements import all_rows, reached
from tests.test_ways import walked
from tests.test_webs import NO_ROWS, PARTED

WRONG = ("", "a", "aaa", "abA", "ab0", "abcd", "ab ", ("a", "b"), ["a", "b"], None, 0, True, "a" * 25, {"a": 1}, TRIO)


def owners_of(row):
    """The owners of the steps, as a string."""
    return "".join(step[2] for step in row.steps)


def fitting(row):
    """All strings that fit, found among all strings as the document tells them."""
    groups = [group_of(row, step[0]) for step in row]
    letters = sorted(zip(groups, owners_of(row)))
    chosen = product(sorted(set(owners_of(row))), repeat=len(row))
    return ["".join(owners) for owners in chosen if sorted(zip(groups, owners)) == letters]


class FitTest(Case):
    def test_fitting_owners_by_force(self):
        for row in (TRIO, TWINS, LOOP, Row(4), *all_rows(4, 3, "ab")[::40], *all_rows(3, 4, "ab")[::60]):
            found = reached(row)
            right = [word for word in map("".join, product("abc", repeat=len(row))) if row.owned(word).steps in found]
            self.assertEqual(fitting(row), right)
            for word in map("".join, product("abc", repeat=len(row))):
                self.assertIs(do_fit(row, word), word in right)
            self.assertEqual(list(each_owners(row)), right)
            self.assertEqual(count_owners(row), len(right))
            self.assertEqual(least_owners(row), right[0])
            self.assertEqual([owners_at(row, index) for index in range(len(right))], right)
            self.assertEqual([index_of_owners(row, word) for word in right], list(range(len(right))))

    def test_several_groups(self):
        row = Row(9, ((2, 8, "c"), (0, 5, "b"), (1, 2, "b"), (0, 5, "a"), (1, 8, "a"), (4, 7, "z"), (5, 6, "a")))
        right = fitting(row)
        self.assertEqual(len(right), 18)
        self.assertEqual(list(each_owners(row)), right)
        self.assertEqual([owners_at(row, index) for index in range(18)], right)
        self.assertEqual([index_of_owners(row, word) for word in right], list(range(18)))

    def test_long_rows(self):
        random = Random(81)
        for groups in (1, 3):
            row = random_row(random, 12, 24, "abcdefgh", groups)
            many = count_owners(row)
            self.assertEqual(owners_at(row, 0), least_owners(row))
            for index in (0, 1, many // 3, many - 1):
                word = owners_at(row, index)
                self.assertIs(do_fit(row, word), True)
                self.assertEqual(index_of_owners(row, word), index)
            self.assertLess(owners_at(row, many // 3), owners_at(row, many // 3 + 1))
            steps = each_owners(row)
            self.assertEqual([next(steps) for _ in range(50)], [owners_at(row, index) for index in range(50)])
        row = Row(2, tuple((0, 1, letter) for letter in "abcdefghijklmnopqrstuvwx"))
        self.assertEqual(count_owners(row), 620448401733239439360000)
        self.assertEqual(owners_at(row, count_owners(row) - 1), "xwvutsrqponmlkjihgfedcba")

    def test_no_steps(self):
        self.assertEqual([do_fit(Row(3), ""), least_owners(Row(3)), count_owners(Row(3))], [True, "", 1])
        self.assertEqual([list(each_owners(Row(3))), owners_at(Row(3), 0), index_of_owners(Row(3), "")], [[""], "", 0])
        self.assertEqual(moves_to_owners(Row(3), ""), ())

    def test_wrong_rows(self):
        for value in NO_ROWS:
            for call in (do_fit, moves_to_owners, index_of_owners):
                self.told(InvalidRow, call, value, None)
            for call in (least_owners, count_owners):
                self.told(InvalidRow, call, value)
            self.told(InvalidRow, owners_at, value, None)
            self.told(InvalidRow, exchange_owners, value, None, None)

    def test_a_generator_raises_when_it_is_asked(self):
        for value in NO_ROWS:
            owners = each_owners(value)
            self.told(InvalidRow, next, owners)

    def test_what_are_no_owners(self):
        for call in (do_fit, moves_to_owners, index_of_owners):
            for value in WRONG:
                self.told(InvalidOperation, call, TRIO, value)
            for value in [value for value in STRANGE if value not in ("ab", "on")]:
                self.told(InvalidOperation, call, TRIO, value)

    def test_owners_that_do_not_fit(self):
        self.assertIs(do_fit(TWINS, "cab"), False)
        for call in (moves_to_owners, index_of_owners):
            for word in ("cab", "bca", "acb", "aba", "abz"):
                self.told(InvalidOperation, call, TWINS, word)

    def test_no_such_index(self):
        for value in NO_INTEGERS + [-1, 6, 7, LONG]:
            self.assertIs(self.refused(owners_at, LOOP, value), value)
        for value in NO_INTEGERS + [-1, 1]:
            self.assertIs(self.refused(owners_at, Row(4), value), value)
        self.assertEqual([owners_at(LOOP, 0), owners_at(LOOP, 5)], ["aabb", "bbaa"])


class MovesTest(Case):
    def check_moves(self, row, moves, owners):
        self.assertIsInstance(moves, tuple)
        self.assertLessEqual(len(moves), 200000)
        self.assertEqual(walked(row, moves), row.owned(owners))

    def check_exchanged(self, row, one, other):
        owners = list(owners_of(row))
        owners[one], owners[other] = owners[other], owners[one]
        self.check_moves(row, exchange_owners(row, one, other), "".join(owners))

    def test_exchanged_owners(self):
        random = Random(82)
        rows = [TRIO, TWINS, LOOP, PARTED, random_row(random, 5, 9, "abcdefg"), random_row(random, 9, 14, "abcde", 3)]
        for row in rows:
            for one in range(len(row)):
                for other in range(len(row)):
                    if group_of(row, row[one][0]) == group_of(row, row[other][0]):
                        self.check_exchanged(row, one, other)
                    else:
                        self.told(InvalidOperation, exchange_owners, row, one, other)

    def test_exchanged_owners_of_long_rows(self):
        random = Random(83)
        chain = Row(12, tuple((k, k + 1, "abcdefghijk"[k]) for k in range(11)))
        for row in (chain, FULL, random_row(random, 12, 24, "abcdefgh")):
            for one, other in ((0, len(row) - 1), (len(row) - 1, 3), (5, 6), (4, 4)):
                self.check_exchanged(row, one, other)
        self.assertEqual(exchange_owners(chain, 4, 4), ())

    def test_moves_to_owners(self):
        for row in (TRIO, TWINS, LOOP):
            for word in fitting(row):
                self.check_moves(row, moves_to_owners(row, word), word)
        for letters in permutations("abcd"):
            row = Row(5, ((0, 1, "a"), (2, 3, "b"), (1, 2, "c"), (3, 4, "d")))
            self.check_moves(row, moves_to_owners(row, "".join(letters)), "".join(letters))

    def test_moves_to_owners_of_long_rows(self):
        random = Random(84)
        for groups in (1, 2, 4):
            for _ in range(4):
                row = random_row(random, 12, 24, "abcdefghijklmnop", groups)
                for index in (0, count_owners(row) - 1, random.randrange(count_owners(row))):
                    word = owners_at(row, index)
                    self.check_moves(row, moves_to_owners(row, word), word)
                    self.assertIs(leads_to(row, row.owned(word)), True)

    def test_no_index_of_a_step(self):
        for value in NO_INTEGERS + [-1, 4, LONG]:
            self.assertIs(self.refused(exchange_owners, LOOP, value, 0), value)
            self.assertIs(self.refused(exchange_owners, LOOP, 0, value), value)
            self.assertIs(self.refused(exchange_owners, LOOP, value, None), value)
        self.assertEqual(self.refused(exchange_owners, TWINS, 0, 3), 3)
        self.assertEqual(self.refused(exchange_owners, Row(2), 0, 0), 0)
