"""Groups, handles, bridges and trees [0.10], [0.15], [4.1]."""

import unittest
from itertools import combinations, product

from renamedown.errors import InvalidOperation, InvalidRow
from renamedown.rows.rows import Row
from renamedown.rows.webs import any_tree, bridges, count_trees, equal_pairs, group_of, groups_of
from renamedown.rows.webs import handles_of, is_joined, is_tree, owner_counts, rings_in, split, steps_in
from tests.common import FULL, LONG, LOOP, STRANGE, TRIO, TWINS, Case

NO_ROWS = [value for value in STRANGE if not isinstance(value, Row)] + [TRIO.steps, (3, ())]
PARTED = Row(9, ((2, 8, "c"), (0, 5, "a"), (1, 2, "b"), (0, 5, "a"), (1, 8, "a"), (4, 7, "z"), (5, 6, "a")))
SAMPLES = (TRIO, TWINS, LOOP, FULL, PARTED, Row(1), Row(12))


def rows_by_force(places, most):
    """All rows of so many places with at most so many steps, all owned by one."""
    pairs = [(a, b) for b in range(places) for a in range(b)]
    for many in range(most + 1):
        for exchanges in product(pairs, repeat=many):
            yield Row(places, tuple((a, b, "a") for a, b in exchanges))


def joined(places, exchanges):
    """The groups, found by walking from place to place."""
    groups = []
    for place in range(places):
        if not any(place in group for group in groups):
            group, fresh = {place}, [place]
            while fresh:
                near = [sum(pair) - fresh[0] for pair in exchanges if fresh[0] in pair]
                fresh = fresh[1:] + [other for other in near if other not in group]
                group.update(near)
            groups.append(tuple(sorted(group)))
    return tuple(groups)


def trees_by_force(row):
    """All trees, found among all sets of steps as the document tells them."""
    groups = joined(row.places, row.exchanges)
    whole = [chosen for many in range(len(row) + 1) for chosen in combinations(range(len(row)), many)
             if joined(row.places, [row.exchanges[index] for index in chosen]) == groups]
    return [chosen for chosen in whole
            if not any(set(other) < set(chosen) for other in whole)]


class GroupsTest(Case):
    def test_groups(self):
        self.assertEqual(groups_of(PARTED), ((0, 5, 6), (1, 2, 8), (3,), (4, 7)))
        self.assertEqual(groups_of(Row(12)), tuple((place,) for place in range(12)))
        self.assertEqual(groups_of(Row(1)), ((0,),))
        self.assertEqual(groups_of(FULL), (tuple(range(12)),))
        for row in rows_by_force(4, 4):
            self.assertEqual(groups_of(row), joined(4, row.exchanges))

    def test_group_with_a_place(self):
        for row in SAMPLES:
            for group in groups_of(row):
                for place in group:
                    self.assertEqual(group_of(row, place), group)

    def test_joined_rows(self):
        self.assertEqual([is_joined(row) for row in SAMPLES], [True, False, True, True, False, True, False])

    def test_what_is_no_place(self):
        for value in [value for value in STRANGE if repr(value) not in ("0", "1", "2")] + [3, -1, LONG]:
            self.assertIs(self.refused(group_of, TRIO, value), value)

    def test_what_is_no_row(self):
        for value in NO_ROWS:
            for call in (groups_of, is_joined, split, bridges, equal_pairs, any_tree, count_trees):
                self.told(InvalidRow, call, value)
            for call in (group_of, steps_in, owner_counts, rings_in, handles_of, is_tree):
                for other in (0, (0,), None):
                    self.told(InvalidRow, call, value, other)

    def test_what_is_no_group(self):
        wrong = [value for value in STRANGE if repr(value) != "(0, 1)"]
        for value in wrong + [(0, True), (False, 1), (0,), (1, 0), [0, 1], (2, 3), (3,), (0, 1, 2), (0, 1, 2, 3, 4)]:
            for call in (steps_in, owner_counts, rings_in, handles_of):
                self.told(InvalidOperation, call, TWINS, value)
        for value in ((True,), (1,), (), ((0,),), [0], 0, False, (False,)):
            for call in (steps_in, owner_counts, rings_in, handles_of):
                self.told(InvalidOperation, call, Row(1), value)


class PartsTest(Case):
    def test_steps_and_owners(self):
        self.assertEqual([steps_in(PARTED, group) for group in groups_of(PARTED)], [(1, 3, 6), (0, 2, 4), (), (5,)])
        counts = [list(owner_counts(PARTED, group).items()) for group in groups_of(PARTED)]
        self.assertEqual(counts, [[("a", 3)], [("a", 1), ("b", 1), ("c", 1)], [], [("z", 1)]])
        self.assertEqual(steps_in(Row(12), (11,)), ())

    def test_rings(self):
        for row in SAMPLES:
            found = []
            for group in groups_of(row):
                rings = rings_in(row, group)
                self.assertEqual(list(rings), sorted(rings))
                for ring in rings:
                    self.assertEqual(ring[0], min(ring))
                    self.assertEqual([row.deed[place] for place in ring], list(ring[1:] + ring[:1]))
                found.extend(place for ring in rings for place in ring)
                self.assertEqual(sorted(place for ring in rings for place in ring), list(group))
            self.assertEqual(sorted(found), list(range(row.places)))

    def test_handles(self):
        for row in list(rows_by_force(4, 4)) + list(SAMPLES):
            for group in groups_of(row):
                steps, rings = len(steps_in(row, group)), len(rings_in(row, group))
                self.assertEqual(steps, len(group) + rings - 2 + 2 * handles_of(row, group))
                self.assertGreaterEqual(handles_of(row, group), 0)
        self.assertEqual(handles_of(Row(2, ((0, 1, "a"),) * 24), (0, 1)), 11)
        self.assertEqual(handles_of(Row(2, ((0, 1, "a"),) * 23), (0, 1)), 11)
        self.assertEqual(handles_of(Row(1), (0,)), 0)

    def test_split(self):
        parts = split(PARTED)
        self.assertEqual([part.places for part in parts], [9] * 4)
        self.assertEqual([part.exchanges for part in parts],
                         [((0, 5), (0, 5), (5, 6)), ((2, 8), (1, 2), (1, 8)), (), ((4, 7),)])
        self.assertEqual(parts[1].steps, ((2, 8, "c"), (1, 2, "b"), (1, 8, "a")))
        self.assertEqual(split(Row(2)), (Row(2), Row(2)))
        self.assertEqual(split(LOOP), (LOOP,))

    def test_bridges(self):
        self.assertEqual(bridges(PARTED), (5, 6))
        for row in rows_by_force(4, 5):
            many = len(joined(4, row.exchanges))
            found = [index for index in range(len(row))
                     if len(joined(4, row.exchanges[:index] + row.exchanges[index + 1:])) > many]
            self.assertEqual(bridges(row), tuple(found))

    def test_equal_pairs(self):
        row = Row(3, ((0, 1, "a"), (0, 1, "b"), (0, 1, "b"), (0, 2, "b"), (1, 2, "b"), (1, 2, "a")))
        self.assertEqual(equal_pairs(row), (0, 1, 4))
        self.assertEqual(equal_pairs(Row(2, ((0, 1, "a"),) * 24)), tuple(range(23)))
        self.assertEqual(equal_pairs(Row(5)) + equal_pairs(TRIO.part(0, 1)) + equal_pairs(TWINS), ())


class TreesTest(Case):
    def check_trees(self, row):
        trees = set(trees_by_force(row))
        self.assertEqual(count_trees(row), len(trees), row.steps)
        self.assertIn(any_tree(row), trees)
        for many in range(len(row) + 1):
            for chosen in combinations(range(len(row)), many):
                self.assertIs(is_tree(row, chosen), chosen in trees)

    def test_by_force(self):
        for places, most in ((1, 0), (2, 5), (3, 5), (4, 5)):
            for row in rows_by_force(places, most):
                self.check_trees(row)
        for row in (LOOP.wider(6), PARTED, TWINS + TWINS):
            self.check_trees(row)

    def test_known_numbers(self):
        whole = Row(6, tuple((a, b, "a") for b in range(6) for a in range(b)))
        self.assertEqual(count_trees(whole), 6 ** 4)
        ring = Row(12, tuple((k, k + 1, "a") for k in range(11)) + ((0, 11, "a"),))
        self.assertEqual(count_trees(ring), 12)
        self.assertEqual(count_trees(ring + ring), 12 * 2 ** 11)
        self.assertEqual(count_trees(Row(2, ((0, 1, "a"),) * 24)), 24)
        self.assertEqual(count_trees(Row(12)), 1)
        self.assertEqual(any_tree(Row(12)), ())
        self.assertTrue(is_tree(Row(12), ()))

    def test_every_value_is_judged(self):
        self.assertEqual(self.judged(is_tree, TRIO), [(0, 1)])
        self.assertEqual(self.judged(is_tree, TWINS), [(0, 1)])
        self.assertEqual(self.judged(is_tree, Row(3)), [()])
        self.assertEqual(self.judged(is_tree, Row(2, ((0, 1, "a"),) * 2)), [(0,)])

    def test_what_is_no_tree(self):
        for value in ((0, True), (False, 1), (1, 0), [0, 1], (0, 0, 1), (0, 1, 1), (0, 2), (-1, 0), (0, -1), (0,), (),
                      (0, 1, LONG), ("0", "1"), {0: 1, 1: 0}):
            self.assertIs(is_tree(TRIO, value), False, value)


if __name__ == "__main__":
    unittest.main()
