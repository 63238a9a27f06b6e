"""Rows that are alike, their kinds and likenesses [14.1], [14.2]."""

from itertools import permutations
from math import factorial
from random import Random

from renamedown.base.words import is_count
from renamedown.decide.ways import leads_to
from renamedown.errors import InvalidRow, TooMany
from renamedown.moves.passings import after_moves
from renamedown.rows.names import any_likeness, are_alike, count_own, is_likeness, is_own, kind_of, repeated, sent_back
from renamedown.rows.rows import Row
from renamedown.rows.webs import groups_of, owner_counts, rings_in
from tests.common import FULL, LONG, LONGEST, LOOP, STRANGE, TRIO, TWINS, Case
from tests.test_plain import random_moves, random_row
from tests.test_statements import all_rows, reached
from tests.test_webs import NO_ROWS, PARTED

NO_COUNTS = [value for value in STRANGE if not is_count(value)]
SIZES = ((2, 3, "ab"), (3, 2, "ab"), (3, 3, "ab"), (3, 4, "a"), (4, 2, "ab"), (4, 3, "a"), (4, 4, "a"))


def kind_by_words(row):
    """The kind, put together from the groups as the document tells it."""
    triples = []
    for group in groups_of(row):
        lengths = sorted(len(ring) for ring in rings_in(row, group))
        triples.append((len(group), tuple(lengths), tuple(sorted(owner_counts(row, group).items()))))
    return tuple(sorted(triples))


def likenesses(one, other):
    """All likenesses, found among all tuples of names and all rows to which passings lead."""
    found = reached(other)
    return {names for names in permutations(range(one.places)) if one.renamed(names).steps in found}


def drawn_pairs(random):
    """Rows of 12 places and 24 steps with rows that are alike to them, and the names."""
    for groups in (1, 1, 2, 3, 5):
        row = random_row(random, 12, 24, "abc", groups)
        names = tuple(random.sample(range(12), 12))
        yield row, after_moves(row.renamed(names), random_moves(random, row, 400)), names


class AlikeTest(Case):
    def test_by_force(self):
        random = Random(141)
        for places, many, letters in SIZES:
            rows = all_rows(places, many, letters)
            for one in rows[::len(rows) // 12 + 1]:
                for other in random.sample(rows, min(len(rows), 12)) + [one.renamed(tuple(random.sample(range(places), places)))]:
                    right = likenesses(one, other)
                    self.assertIs(are_alike(one, other), right != set())
                    self.assertEqual(kind_of(one) == kind_of(other), right != set())
                    told = any_likeness(one, other)
                    self.assertIs(type(told), tuple if right else type(None))
                    self.assertTrue(told in right if right else told is None)
                    judged = {names for names in permutations(range(places)) if is_likeness(one, other, names)}
                    self.assertEqual(judged, right)

    def test_own_by_force(self):
        for places, many, letters in SIZES:
            rows = all_rows(places, many, letters)
            for row in rows[::len(rows) // 9 + 1] + [Row(places)]:
                right = likenesses(row, row)
                self.assertEqual(count_own(row), len(right))
                self.assertEqual({names for names in permutations(range(places)) if is_own(row, names)}, right)

    def test_kinds(self):
        for row in (TRIO, TWINS, LOOP, FULL, PARTED, Row(1), Row(12)):
            self.assertEqual(kind_of(row), kind_by_words(row))
        self.assertEqual(kind_of(Row(3)), ((1, (1,), ()),) * 3)
        random = Random(142)
        for groups in (1, 2, 3, 4, 6):
            row = random_row(random, 12, 24, "abc", groups)
            self.assertEqual(kind_of(row), kind_by_words(row))

    def test_twelve_places_and_24_steps(self):
        for row, other, names in drawn_pairs(Random(143)):
            self.assertIs(are_alike(row, other), True)
            self.assertIs(is_likeness(row, other, names), True)
            told = any_likeness(row, other)
            self.assertIs(leads_to(row.renamed(told), other), True)
            self.assertIs(is_likeness(row, other, told), True)
            self.assertEqual(kind_of(row), kind_of(other))
            self.assertEqual(count_own(row), count_own(other))
            owned = row.owned("z" + "".join(step[2] for step in row.steps[1:]))
            self.assertIs(are_alike(owned, other), False)
            self.assertIsNone(any_likeness(owned, other))
            self.assertIs(is_likeness(owned, other, names), False)

    def test_several_groups(self):
        one = Row(6, ((0, 1, "a"), (2, 3, "b"), (4, 5, "a")))
        other = Row(6, ((0, 5, "a"), (1, 4, "a"), (2, 3, "b")))
        self.assertIs(are_alike(one, other), True)
        self.assertIs(is_likeness(one, other, (1, 4, 3, 2, 5, 0)), True)
        self.assertIs(is_likeness(one, other, (2, 3, 1, 4, 5, 0)), False)
        self.assertEqual([count_own(one), count_own(one.owned("aaa")), count_own(one.owned("abc"))], [16, 48, 8])
        both = Row(4, ((0, 1, "a"), (0, 1, "b"), (2, 3, "a"), (2, 3, "b")))
        self.assertIs(are_alike(both, both.owned("aabb")), False)
        self.assertIs(are_alike(both, both.owned("baab")), True)

    def test_groups_of_the_same_places_and_owners_with_other_rings(self):
        flat = Row(4, ((0, 1, "a"), (1, 2, "a"), (1, 2, "a"), (2, 3, "a")))
        cross = Row(4, ((0, 1, "a"), (1, 2, "a"), (2, 3, "a"), (0, 3, "a")))
        self.assertEqual([kind_of(flat)[0][1], kind_of(cross)[0][1]], [(2, 2), (1, 3)])
        self.assertIs(are_alike(flat, cross), False)

    def test_rows_without_steps(self):
        for places in (1, 5, 12):
            self.assertIs(are_alike(Row(places), Row(places)), True)
            self.assertEqual(count_own(Row(places)), factorial(places))
            self.assertIs(is_own(Row(places), tuple(range(places))[::-1]), True)
        self.assertIs(are_alike(Row(3), TRIO), False)

    def test_unlike_numbers_of_places(self):
        for one, other in ((TRIO, TRIO.wider(4)), (Row(1), Row(2)), (Row(12), Row(11))):
            for left, right in ((one, other), (other, one)):
                self.assertIs(are_alike(left, right), False)
                self.assertIsNone(any_likeness(left, right))
                for names in (tuple(range(left.places)), tuple(range(right.places)), None):
                    self.assertIs(is_likeness(left, right, names), False)

    def test_a_likeness_is_told_from_the_one_to_the_other(self):
        one, other = TRIO, TRIO.renamed((1, 2, 0)).owned("ba")
        self.assertIs(is_likeness(one, other, (1, 2, 0)), True)
        wide = Row(3, ((0, 1, "a"),))
        moved = wide.renamed((1, 2, 0))
        self.assertEqual([is_likeness(wide, moved, (1, 2, 0)), is_likeness(moved, wide, (1, 2, 0))], [True, False])
        self.assertEqual([is_likeness(wide, moved, (2, 1, 0)), is_likeness(moved, wide, (2, 1, 0))], [True, True])

    def test_every_value_is_judged(self):
        self.assertEqual(self.judged(is_likeness, TRIO, TRIO.backwards()), [])
        self.assertEqual(self.judged(is_own, TRIO), [])
        self.assertEqual(self.judged(is_own, Row(2)), [(0, 1), (1, 0)])
        for value in ((0, 1, 2.0), (0, 1, True), (False, 1, 2), [0, 1, 2], (0, 1), (0, 1, 1), (0, 1, 3), (0, 1, 2, 3), "012",
                      (0, 1, LONG), ((0,), 1, 2)):
            self.assertIs(is_own(TRIO, value), False)
            self.assertIs(is_likeness(TRIO, TRIO, value), False)
        self.assertIs(is_own(TRIO, (0, 1, 2)), True)

    def test_what_is_no_row(self):
        for value in NO_ROWS:
            for call in (kind_of, count_own):
                self.told(InvalidRow, call, value)
            for call in (repeated, sent_back, is_own):
                self.told(InvalidRow, call, value, None)
            for call in (are_alike, any_likeness):
                self.told(InvalidRow, call, value, TRIO)
                self.told(InvalidRow, call, TRIO, value)
            self.told(InvalidRow, is_likeness, value, TRIO, None)
            self.told(InvalidRow, is_likeness, TRIO, value, None)


class TimesTest(Case):
    def test_repeated(self):
        for row in (TRIO, LOOP, TWINS, PARTED, FULL.part(0, 1)):
            times = 0
            while len(row) * times <= 24:
                self.assertEqual(repeated(row, times), Row(row.places, row.steps * times))
                times += 1
            for more in (times, times + 1, 10 ** 9, LONGEST):
                self.assertEqual(self.told(TooMany, repeated, row, more).limit, 24)

    def test_exactly_24_steps(self):
        self.assertEqual(repeated(TRIO, 12).steps, TRIO.steps * 12)
        self.assertEqual(repeated(FULL, 1), FULL)
        self.assertEqual(repeated(FULL, 0), Row(12))
        self.assertEqual(self.told(TooMany, repeated, TRIO, 13).limit, 24)
        self.assertEqual(self.told(TooMany, repeated, FULL, 2).limit, 24)

    def test_a_row_without_steps_many_times(self):
        for times in (0, 1, 25, 10 ** 12, LONGEST):
            self.assertEqual(repeated(Row(7), times), Row(7))
            self.assertEqual(sent_back(Row(7), times), Row(7))

    def test_sent_back_step_by_step(self):
        for row in (TRIO, LOOP, TWINS, PARTED, FULL, FULL.part(0, 1)):
            now = row
            for times in range(2 * len(row) + 2):
                self.assertEqual(sent_back(row, times), now)
                turned = sent_back(now, 1)
                a, b, _ = now.steps[0]
                names = [{a: b, b: a}.get(place, place) for place in range(row.places)]
                self.assertIs(is_likeness(now, turned, tuple(names)), True)
                self.assertIs(are_alike(row, turned), True)
                now = Row(row.places, now.steps[1:] + now.steps[:1])
            self.assertEqual(sent_back(row, len(row)), row)

    def test_sent_back_very_often(self):
        for times in (10 ** 20, LONGEST, LONGEST - 1, LONGEST - 2):
            self.assertEqual(sent_back(LOOP, times), sent_back(LOOP, times % 4))
            self.assertEqual(sent_back(FULL, times), sent_back(FULL, times % 24))

    def test_wrong_times(self):
        for call in (repeated, sent_back):
            for row in (TRIO, Row(3), FULL):
                for value in NO_COUNTS + [-1, LONG, 10 ** 250]:
                    self.assertIs(self.refused(call, row, value), value)
