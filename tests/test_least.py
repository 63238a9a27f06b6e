"""Least tuples of exchanges and uncrossed trees [12.1], [12.2]."""

from itertools import combinations, permutations, product
from math import factorial
from random import Random

from renamedown.base.deeds import deed_of_rings, is_deed, least_steps, ring_lengths, rings_of
from renamedown.count import least
from renamedown.count.least import any_order, count_least, count_orders, is_least, is_uncrossed, least_row
from renamedown.count.least import least_tuples, rules_of, uncrossed_trees
from renamedown.count.numbers import count_all
from renamedown.errors import InvalidDeed, InvalidOperation, TooMany
from renamedown.rows.rows import Row
from renamedown.rows.webs import groups_of
from tests.common import LONG, STRANGE, TRIO, Case, all_but

NO_DEEDS = [value for value in STRANGE if not is_deed(value)] + [(0, 2), (0, 0), (False, 1), [0, 1], tuple(range(13))]
TWELVE = tuple(range(1, 12)) + (0,)
NO_RINGS = [(), (1, 0), (0, 0), (0, 1, 1), (0, 12), (-1, 0), tuple(range(13)), [0, 1], (False, 1), (0, True), (0, "1"),
            ((0, 1),), "01", None, 0, {0: 1}, TRIO, (2, 3, 1), (0, LONG)]


def deed_of(places, exchanges):
    """What a tuple of exchanges does."""
    return Row(places, tuple((*pair, "a") for pair in exchanges)).deed


def least_by_force(deed):
    """All tuples of exchanges that are as short as possible and have the deed."""
    pairs = [(a, b) for a in range(len(deed)) for b in range(a + 1, len(deed))]
    for many in range(len(deed)):
        found = [chosen for chosen in product(pairs, repeat=many) if deed_of(len(deed), chosen) == deed]
        if found:
            return tuple(found)
    return None


def do_cross(ring, one, other):
    """Whether two exchanges cross: going round the ring one meets them by turns."""
    met = [0 if place in one else 1 for place in ring if place in one + other]
    return not set(one) & set(other) and met in ([0, 1, 0, 1], [1, 0, 1, 0])


def trees_by_force(ring):
    """All uncrossed trees of a ring."""
    pairs = [(a, b) for a in range(12) for b in range(a + 1, 12) if a in ring and b in ring]
    found = []
    for chosen in combinations(pairs, len(ring) - 1):
        joined = groups_of(Row(12, tuple((*pair, "a") for pair in chosen)))
        if tuple(sorted(ring)) in joined and not any(do_cross(ring, *two) for two in combinations(chosen, 2)):
            found.append(chosen)
    return tuple(found)


def rules_by_words(ring, tree):
    """The rules of a tree, found by going round from the common place."""
    found = []
    for one, other in permutations(tree, 2):
        for place in set(one) & set(other):
            at = ring.index(place)
            met = [x for x in ring[at + 1:] + ring[:at] if x in one + other]
            if met[0] in one:
                found.append((one, other))
    return tuple(sorted(found))


class LeastTest(Case):
    def test_constants(self):
        self.assertEqual([least.MAX_LEAST, least.MAX_TREES], [5000, 7])

    def test_by_force(self):
        for places in (1, 2, 3, 4):
            pairs = [(a, b) for a in range(places) for b in range(a + 1, places)]
            for deed in permutations(range(places)):
                found = least_by_force(deed)
                self.assertEqual(len(found[0]), places - len(rings_of(deed)))
                self.assertEqual(least_tuples(deed), found)
                self.assertEqual(count_least(deed), len(found))
                for many in range(places + 1):
                    for chosen in product(pairs, repeat=many):
                        self.assertIs(is_least(deed, chosen), chosen in found)

    def test_five_places(self):
        for deed in ((1, 2, 3, 4, 0), (2, 3, 4, 0, 1), (1, 0, 3, 4, 2), (4, 3, 2, 1, 0), (0, 3, 4, 2, 1)):
            found = least_by_force(deed)
            self.assertEqual((least_tuples(deed), count_least(deed)), (found, len(found)))
            for chosen in found:
                groups = groups_of(Row(5, tuple((*pair, "a") for pair in chosen)))
                self.assertEqual(groups, tuple(sorted(tuple(sorted(ring)) for ring in rings_of(deed))))

    def test_numbers(self):
        random = Random(121)
        for places in range(1, 13):
            deed = tuple(random.sample(range(places), places))
            self.assertEqual(count_least(deed), count_all(ring_lengths(deed), least_steps(deed)))
        self.assertEqual([count_least(TWELVE), count_least(tuple(range(12)))], [12 ** 10, 1])
        self.assertEqual(count_least((1, 0, 3, 2, 5, 4, 7, 6)), factorial(4))

    def test_at_most_5000(self):
        seven = tuple(range(1, 6)) + (0,) + (7, 6)  # 6 ** 4 tuples of five, one exchange put in anywhere
        self.assertEqual(count_least(seven), 7776)
        self.assertEqual(self.told(TooMany, least_tuples, seven).limit, 5000)
        self.assertEqual(self.told(TooMany, least_tuples, TWELVE).limit, 5000)
        above = (1, 2, 3, 0, 5, 6, 7, 4)  # two rings of four places: 20 * 16 * 16
        self.assertEqual((count_least(above), self.told(TooMany, least_tuples, above).limit), (5120, 5000))
        self.assertEqual(len(set(least_tuples((1, 2, 3, 4, 0, 6, 5, 8, 7)))), 3750)
        below = (1, 2, 0, 4, 5, 3, 7, 8, 6)  # three rings of three places: 6! / 8 * 27
        told = least_tuples(below)
        self.assertEqual((len(told), list(told)), (2430, sorted(set(told))))
        self.assertTrue(all(is_least(below, chosen) for chosen in told))
        self.assertEqual(len(least_tuples((1, 0, 3, 2, 5, 4, 7, 6, 9, 8, 11, 10))), 720)

    def test_every_value_is_judged(self):
        self.assertEqual(self.judged(is_least, (1, 2, 0)), [])
        self.assertEqual(self.judged(is_least, (0, 1, 2)), [()])
        self.assertEqual(self.judged(is_least, (1, 0)), [((0, 1),)])

    def test_what_is_not_least(self):
        for value in (((0, 1), (0, 2), (0, 2)), [(0, 1), (0, 2)], ((0, 1), [0, 2]), ((0, 1), (2, 0)), ((False, 1), (0, 2)),
                      ((0, 1, "a"), (0, 2, "b")), ((0, 1),), ((0, 1), (0, 3)), ((0, 2), (0, 1)), ((0, 1), None)):
            self.assertIs(is_least((1, 2, 0), value), False)
        self.assertIs(is_least((1, 2, 0), ((0, 1), (0, 2))), True)

    def test_what_is_no_deed(self):
        for value in NO_DEEDS:
            self.told(InvalidDeed, is_least, value, ())
            self.told(InvalidDeed, count_least, value)
            self.told(InvalidDeed, least_tuples, value)
            self.told(InvalidDeed, least_row, value, None)

    def test_least_rows(self):
        random = Random(122)
        for places in range(1, 13):
            for _ in range(5):
                deed = tuple(random.sample(range(places), places))
                owners = tuple(random.choice("abz") for _ in range(least_steps(deed)))
                row = least_row(deed, owners)
                self.assertEqual((row.places, row.deed), (places, deed))
                self.assertEqual(tuple(step[2] for step in row), owners)
                self.assertIs(is_least(deed, row.exchanges), True)
                for wrong in (owners + ("a",), list(owners), "".join(owners), owners[1:] + ("A",), owners[:-1] or None):
                    self.told(InvalidOperation, least_row, deed, wrong)

    def test_wrong_owners(self):
        for value in STRANGE:
            self.told(InvalidOperation, least_row, (1, 2, 0), value)
        for value in all_but(()):
            self.told(InvalidOperation, least_row, (0, 1, 2), value)
        self.assertEqual(least_row((0, 1, 2), ()), Row(3))


class TreesTest(Case):
    def test_by_force(self):
        for ring in ((0,), (5,), (0, 1), (3, 11), (0, 1, 2), (0, 2, 1), (1, 7, 4), (0, 1, 2, 3), (0, 3, 1, 2), (2, 9, 5, 7),
                     (0, 1, 2, 3, 4), (0, 4, 2, 1, 3)):
            trees = trees_by_force(ring)
            self.assertEqual(uncrossed_trees(ring), trees)
            pairs = [(a, b) for a in range(12) for b in range(a + 1, 12) if a in ring and b in ring]
            for many in range(len(ring) + 1):
                for chosen in combinations(pairs, many):
                    self.assertIs(is_uncrossed(ring, chosen), chosen in trees)
            for tree in trees:
                self.assertEqual(rules_of(ring, tree), rules_by_words(ring, tree))

    def test_orders_by_force(self):
        for ring in ((0,), (0, 1), (0, 1, 2), (0, 2, 1), (0, 1, 2, 3), (0, 2, 3, 1), (0, 3, 1, 2), (0, 1, 2, 3, 4),
                     (0, 3, 1, 4, 2)):
            places = max(ring) + 1
            deed = deed_of_rings(places, (ring,))
            every = []
            for tree in uncrossed_trees(ring):
                right = [order for order in permutations(tree) if is_least(deed, order)]
                self.assertEqual(count_orders(ring, tree), len(right))
                self.assertIn(any_order(ring, tree), right)
                for order in permutations(tree):
                    ruled = all(order.index(ahead) < order.index(later) for ahead, later in rules_of(ring, tree))
                    self.assertIs(ruled, order in right)
                every += right
            self.assertEqual(tuple(sorted(every)), least_tuples(deed))

    def test_rings_of_one_seven_and_eight_places(self):
        self.assertEqual([uncrossed_trees((0,)), uncrossed_trees((11,))], [((),), ((),)])
        self.assertEqual([count_orders((4,), ()), any_order((4,), ()), rules_of((4,), ())], [1, (), ()])
        ring = (0, 3, 6, 2, 5, 1, 4)
        trees = uncrossed_trees(ring)
        self.assertEqual((len(trees), list(trees)), (1428, sorted(set(trees))))
        self.assertTrue(all(is_uncrossed(ring, tree) for tree in trees[::20]))
        deed = deed_of_rings(7, (ring,))
        self.assertEqual(sum(count_orders(ring, tree) for tree in trees), count_least(deed))
        for size in (8, 12):
            self.assertEqual(self.told(TooMany, uncrossed_trees, tuple(range(size))).limit, 7)
        self.assertEqual([len(uncrossed_trees(tuple(range(size)))) for size in range(1, 7)], [1, 1, 3, 12, 55, 273])

    def test_rings_of_twelve_places(self):
        ring = (0, 7, 3, 11, 1, 9, 2, 10, 5, 8, 4, 6)
        deed = deed_of_rings(12, (ring,))
        star = tuple(sorted((0, place) for place in ring[1:]))
        self.assertIs(is_uncrossed(ring, star), True)
        self.assertEqual((count_orders(ring, star), len(rules_of(ring, star))), (1, 55))
        self.assertEqual(any_order(ring, star), tuple((0, place) for place in ring[1:]))
        path = tuple(sorted(tuple(sorted(two)) for two in zip(ring, ring[1:])))
        for tree in (star, path):
            self.assertIs(is_least(deed, any_order(ring, tree)), True)
        comb = tuple(sorted([(0, place) for place in range(2, 12, 2)] + [(place - 1, place) for place in range(2, 12, 2)] + [(0, 11)]))
        self.assertIs(is_uncrossed(tuple(range(12)), comb), True)
        self.assertIs(is_least(TWELVE, any_order(tuple(range(12)), comb)), True)
        # Along the star the order is fixed; each other exchange is put in behind its rule.
        self.assertEqual(count_orders(tuple(range(12)), comb), self.orders_of(rules_of(tuple(range(12)), comb), comb))

    def orders_of(self, rules, left):
        """How many orders keep to the rules, counted from the last exchange."""
        if not left:
            return 1
        last = [one for one in left if not any(rule[0] == one and rule[1] in left for rule in rules)]
        return sum(self.orders_of(rules, tuple(one for one in left if one != end)) for end in last)

    def test_every_value_is_judged(self):
        self.assertEqual(self.judged(is_uncrossed, (0, 1)), [((0, 1),)])
        self.assertEqual(self.judged(is_uncrossed, (3,)), [()])
        self.assertEqual(self.judged(is_uncrossed, (0, 1, 2)), [])

    def test_what_is_no_uncrossed_tree(self):
        for value in (((0, 2), (0, 1)), ((0, 1), (0, 1)), [(0, 1), (0, 2)], ((0, 1), [0, 2]), ((0, 1), (2, 0)), ((0, 1),),
                      ((0, 1), (0, 3)), ((False, 1), (0, 2)), ((0, 1), (0, 2), (1, 2)), ((0, 1, "a"), (0, 2, "a"))):
            self.assertIs(is_uncrossed((0, 1, 2), value), False)
            for call in (rules_of, count_orders, any_order):
                self.told(InvalidOperation, call, (0, 1, 2), value)
        self.assertIs(is_uncrossed((0, 1, 2, 3), ((0, 2), (1, 3), (2, 3))), False)
        self.assertIs(is_uncrossed((0, 2, 1, 3), ((0, 2), (1, 3), (2, 3))), True)

    def test_what_is_no_ring(self):
        for value in NO_RINGS:
            self.told(InvalidOperation, is_uncrossed, value, ())
            self.told(InvalidOperation, uncrossed_trees, value)
            for call in (rules_of, count_orders, any_order):
                self.told(InvalidOperation, call, value, ())
        for value in all_but((0,), (0, 1)):
            self.told(InvalidOperation, uncrossed_trees, value)
