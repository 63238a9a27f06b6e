"""Classes of rows, their sizes and distances [10.1], and [0.12] to [0.16] as they show them."""

from collections import Counter
from math import factorial
from random import Random
from time import perf_counter

from renamedown.count import classes
from renamedown.count.classes import class_rows, class_size, distance, farthest, first_counts, is_shortest_way
from renamedown.count.classes import place_in_class, shortest_way
from renamedown.errors import InvalidRow, TooMany
from renamedown.moves.passings import after_moves, pass_back, pass_on
from renamedown.rows.rows import Row
from renamedown.rows.webs import group_of, groups_of
from tests.common import FULL, LOOP, STRANGE, TRIO, TWINS, Case
from tests.test_plain import random_moves, random_row
from tests.test_statements import all_rows, reached
from tests.test_ways import APART, SWAPPED, walked
from tests.test_webs import NO_ROWS, PARTED

CHAIN = Row(7, tuple((k, k + 1, "a") for k in range(6)))  # leads to 7 ** 5 rows
SIX = Row(6, CHAIN.steps[:5])
# Of 4800 rows, and of 5040.
BELOW = Row(3, ((0, 1, "a"), (0, 1, "b"), (0, 1, "c"), (0, 1, "d"), (1, 2, "a")))
ABOVE = Row(2, tuple((0, 1, letter) for letter in "abcdefg"))


def distances(row):
    """The dict from the steps of each row of the class to its distance, found move by move."""
    found, fresh = {row.steps: 0}, [row]
    while fresh:
        later = []
        for one in fresh:
            for index in range(len(row) - 1):
                for other in (pass_on(one, index), pass_back(one, index)):
                    if other.steps not in found:
                        found[other.steps] = found[one.steps] + 1
                        later.append(other)
        fresh = later
    return found


def small_rows():
    """Some rows of small classes, of each number of places and steps up to four and five."""
    rows = [TRIO, TWINS, LOOP, Row(1), Row(4), SWAPPED, APART]
    for places, many, letters in ((2, 3, "ab"), (2, 5, "a"), (3, 2, "ab"), (3, 4, "ab"), (3, 5, "a"), (4, 3, "ab"),
                                  (4, 4, "a"), (4, 5, "a")):
        every = all_rows(places, many, letters)
        rows += every[::len(every) // 9 + 1]
    return rows


class ClassTest(Case):
    def test_constant(self):
        self.assertEqual(classes.MAX_CLASS, 5000)

    def test_by_force(self):
        for row in small_rows():
            found = sorted(reached(row))
            if len(found) <= 1500:
                self.assertEqual(class_size(row), len(found))
                told = class_rows(row)
                self.assertIsInstance(told, tuple)
                self.assertEqual([other.steps for other in told], found)
                self.assertEqual({other.places for other in told}, {row.places})
                self.assertEqual(place_in_class(row), found.index(row.steps))

    def test_first_exchanges_by_force(self):
        for row in small_rows():
            counted = Counter(steps[0][:2] for steps in reached(row) if steps)
            told = first_counts(row)
            self.assertEqual(told, counted)
            self.assertEqual(list(told), sorted(told))

    def test_first_exchanges_of_drawn_rows(self):
        random = Random(101)
        for groups in (1, 2, 3, 5):
            for many in (12, 19, 24):
                row = random_row(random, 12, many, "abc", groups)
                begun = first_counts(row)
                self.assertEqual(sum(begun.values()), class_size(row))
                pairs = [(a, b) for a in range(12) for b in range(a + 1, 12) if b in group_of(row, a)]
                self.assertEqual(list(begun), pairs)
                self.assertGreaterEqual(min(begun.values()), 1)
                self.assertLessEqual(sum(len(group) - 1 for group in groups_of(row)), many)

    def test_known_sizes(self):
        self.assertEqual([class_size(CHAIN), class_size(SIX), class_size(BELOW)], [7 ** 5, 6 ** 4, 4800])
        self.assertEqual([class_size(ABOVE), class_size(Row(12))], [factorial(7), 1])
        self.assertEqual(class_size(Row(12, tuple((k, k + 1, "a") for k in range(11)))), 12 ** 10)
        self.assertEqual(class_size(Row(2, ((0, 1, "a"),) * 24)), 1)
        parted = Row(4, ((0, 1, "a"),) * 11 + ((2, 3, "a"),) * 13)
        self.assertEqual(class_size(parted), factorial(24) // factorial(11) // factorial(13))

    def test_the_size_depends_on_numbers_only(self):
        random = Random(102)
        for _ in range(10):
            row = random_row(random, 8, 13, "abc", 2)
            names = random.sample(range(8), 8)
            self.assertEqual(class_size(row.renamed(tuple(names))), class_size(row))
            self.assertEqual(class_size(after_moves(row, random_moves(random, row, 200))), class_size(row))
        one = Row(4, ((0, 1, "a"), (1, 2, "b"), (2, 3, "a"), (0, 3, "b")))
        other = Row(4, ((0, 1, "x"), (0, 1, "y"), (1, 2, "x"), (1, 3, "y")))
        self.assertEqual(class_size(one), class_size(other))

    def test_a_long_row_is_counted_soon(self):
        random = Random(103)
        begin = perf_counter()
        for row in (FULL, random_row(random, 12, 24, "abcdefgh"), random_row(random, 12, 24, "ab", 3), Row(12)):
            self.assertGreaterEqual(class_size(row), 1)
            first_counts(row)
        self.assertLess(perf_counter() - begin, 8)

    def test_no_steps(self):
        for row in (Row(1), Row(12)):
            self.assertEqual([class_size(row), class_rows(row), place_in_class(row)], [1, (row,), 0])
            self.assertEqual([first_counts(row), farthest(row), distance(row, row)], [{}, 0, 0])
            self.assertEqual(shortest_way(row, row), ())

    def test_too_many_rows(self):
        self.assertEqual([len(class_rows(BELOW)), farthest(BELOW), place_in_class(Row(2))], [4800, 11, 0])
        for row in (ABOVE, CHAIN, FULL):
            for call in (class_rows, place_in_class, farthest):
                self.assertEqual(self.told(TooMany, call, row).limit, 5000)
            for call in (distance, shortest_way):
                self.assertEqual(self.told(TooMany, call, row, TRIO).limit, 5000)
                self.assertIsNone(call(TRIO, row))
                self.told(InvalidRow, call, row, None)
            self.assertEqual(self.told(TooMany, is_shortest_way, row, TRIO, None).limit, 5000)
            self.told(InvalidRow, is_shortest_way, row, 0, None)
            self.assertGreater(class_size(row), 5000)
            self.assertNotEqual(first_counts(row), {})

    def test_what_is_no_row(self):
        for value in NO_ROWS:
            for call in (class_size, class_rows, place_in_class, first_counts, farthest):
                self.told(InvalidRow, call, value)
            for call in (distance, shortest_way):
                self.told(InvalidRow, call, value, TRIO)
                self.told(InvalidRow, call, TRIO, value)
            self.told(InvalidRow, is_shortest_way, value, TRIO, ())
            self.told(InvalidRow, is_shortest_way, TRIO, value, ())


class DistanceTest(Case):
    def test_by_force(self):
        for row in small_rows():
            found = distances(row)
            if len(found) <= 500:
                self.assertEqual(farthest(row), max(found.values()))
                for steps in sorted(found)[::len(found) // 12 + 1]:
                    other = Row(row.places, steps)
                    way = shortest_way(row, other)
                    self.assertEqual(len(way), found[steps])
                    self.assertEqual(walked(row, way), other)
                    self.assertEqual(distance(row, other), found[steps])
                    self.assertEqual(distance(other, row), found[steps])
                    self.assertIs(is_shortest_way(row, other, way), True)
                    self.assertIs(is_shortest_way(row, other, None), False)

    def test_large_classes_by_force(self):
        random = Random(104)
        sparse = Row(12, ((0, 7, "a"), (2, 11, "b"), (0, 9, "c"), (2, 11, "b"), (7, 9, "z")))
        for row in (BELOW, SIX, sparse, Row(2, tuple((0, 1, letter) for letter in "aabbbccc"))):
            found = distances(row)
            self.assertEqual(farthest(row), max(found.values()))
            told = class_rows(row)
            self.assertEqual([other.steps for other in told], sorted(found))
            for other in random.sample(told, 25):
                way = shortest_way(row, other)
                self.assertEqual((len(way), walked(row, way)), (found[other.steps], other))
                self.assertEqual((distance(row, other), place_in_class(other)), (len(way), told.index(other)))
                self.assertIs(is_shortest_way(row, other, way), True)
                self.assertIs(is_shortest_way(row, other, way + ((0, "on"), (0, "back"))), False)

    def test_ways_that_are_not_shortest(self):
        for many in (6, 4998, 5004, 199998):
            self.assertIs(is_shortest_way(LOOP, LOOP, ((0, "on"),) * many), False)
            self.assertIs(is_shortest_way(LOOP, pass_on(LOOP, 1), ((0, "on"),) * many + ((1, "on"),)), False)
        self.assertIs(is_shortest_way(LOOP, pass_on(LOOP, 1), ((1, "on"),)), True)
        self.assertIs(is_shortest_way(LOOP, pass_on(LOOP, 1), ((1, "back"),) * 5), False)

    def test_no_way(self):
        for one, other in ((TRIO, TRIO.backwards()), (TWINS, APART), (TRIO, TRIO.wider(4)), (Row(1), Row(2)),
                           (LOOP, TRIO), (Row(3), TRIO), (BELOW, ABOVE)):
            self.assertIsNone(distance(one, other))
            self.assertIsNone(shortest_way(one, other))
            self.assertIs(is_shortest_way(one, other, None), True)
            for value in (False, (), 0, ((0, "on"),), (None,), "None"):
                self.assertIs(is_shortest_way(one, other, value), False)

    def test_all_shortest_ways(self):
        moves = [(index, way) for index in range(3) for way in ("on", "back")]
        found = distances(LOOP)
        for many in range(4):
            ways = [()]
            for _ in range(many):
                ways = [way + (move,) for way in ways for move in moves]
            for way in ways:
                other = walked(LOOP, way)
                self.assertIs(is_shortest_way(LOOP, other, way), found[other.steps] == many)

    def test_what_is_no_shortest_way(self):
        for value in (((0, "on"),) * 9, ((0, "on"),) * 2, ((0, "back"),) * 2, ((0, "back"),) * 4, ((False, "on"),) * 3,
                      [(0, "on")] * 3, ((1, "on"),) * 3, ((0, "on"), (0, "on"), (0, "back")), (), None,
                      ((0, "on"),) * 200001):
            self.assertIs(is_shortest_way(TRIO, SWAPPED, value), False)
        for way in ("on", "back"):
            self.assertIs(is_shortest_way(TRIO, SWAPPED, ((0, way),) * 3), True)

    def test_every_value_is_judged(self):
        self.assertEqual(self.judged(is_shortest_way, TRIO, SWAPPED), [])
        self.assertEqual(self.judged(is_shortest_way, TRIO, TRIO), [()])
        self.assertEqual(self.judged(is_shortest_way, TWINS, APART), [None])
        self.assertEqual(self.judged(is_shortest_way, LOOP, pass_on(LOOP, 0)), [((0, "on"),)])
        self.assertEqual([value for value in STRANGE if value == ((0, "on"),)], [((0, "on"),)])

    def test_farthest(self):
        self.assertEqual([farthest(TRIO), farthest(Row(2, ((0, 1, "a"), (0, 1, "b")))), farthest(Row(12))], [3, 1, 0])
        self.assertEqual(farthest(PARTED.part(0, 4)), max(distances(PARTED.part(0, 4)).values()))
