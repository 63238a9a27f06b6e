"""Deeds that lie in a deed, and reasons why deeds do not [17.1] to [17.5]."""

from collections import Counter
from itertools import permutations, product
from math import comb, factorial
from random import Random
from time import perf_counter
from unittest.mock import patch

from renamedown.base.deeds import behind, deed_of_rings, exchange_deed, is_deed, least_steps, rest_deed, rings_of
from renamedown.count import between
from renamedown.count.between import any_apartness, between_paper, count_by_steps, count_within, deeds_within
from renamedown.count.between import is_apartness, is_between_paper, lies_in, rest_of
from renamedown.count.least import count_least, is_least, least_tuples
from renamedown.errors import InvalidDeed, InvalidOperation, TooMany
from tests.common import LONG, Case
from tests.test_plain import NO_DEEDS

ROUND = {places: tuple(range(1, places)) + (0,) for places in range(1, 13)}
CALLS = (rest_of, lies_in, any_apartness, between_paper)


def all_deeds(places):
    return list(permutations(range(places)))


def in_rings(lengths):
    """A deed whose rings have these lengths, not told in their order."""
    rings, begin = [], 0
    for length in lengths:
        rings.append(tuple(range(begin, begin + length)))
        begin += length
    return deed_of_rings(begin, tuple(rings))


def done_in_turn(places, exchanges):
    """The deed of exchanges, done one after the other."""
    deed = rest_deed(places)
    for exchange in exchanges:
        deed = behind(deed, exchange_deed(places, exchange))
    return deed


def begun(whole):
    """The deeds of the first exchanges of all least tuples for a deed."""
    return {done_in_turn(len(whole), exchanges[:many]) for exchanges in least_tuples(whole)
            for many in range(len(exchanges) + 1)}


def lies_by_definition(inner, whole):
    """Whether a deed lies in another one, by the numbers of exchanges [17.1]."""
    rests = [rest for rest in all_deeds(len(whole)) if behind(inner, rest) == whole]
    return least_steps(inner) + least_steps(rests[0]) == least_steps(whole)


def walk(deed, place):
    """The places that one meets going round from a place, this one first."""
    met = [place]
    while deed[met[-1]] != place:
        met.append(deed[met[-1]])
    return met


def lies_by_rings(inner, whole):
    """Whether a deed lies in another one, by their rings [17.2]."""
    for ring in rings_of(inner):
        outer = walk(whole, ring[0])
        if not set(ring) <= set(outer) or [place for place in outer if place in ring] != list(ring):
            return False
    for outer in rings_of(whole):
        own = [min(walk(inner, place)) for place in outer]
        for at, first in enumerate(own):
            later = own[at:] + own[:at]
            for other in set(own) - {first}:
                turns = [label for label in later if label in (first, other)]
                if len([1 for one, two in zip(turns, turns[1:] + turns[:1]) if one != two]) > 2:
                    return False
    return True


def is_reason(inner, whole, value):
    """Whether a value of a right form is a reason [17.3]."""
    word, x, *more = value
    if word == "apart":
        return x < more[0] and more[0] in walk(inner, x) and more[0] not in walk(whole, x)
    near, far = walk(inner, x), walk(whole, x)
    if not all(place in far for place in more) or len({x, *more}) <= len(more):
        return False
    if word == "round":
        y, z = more
        return y in near and z in near and near.index(y) < near.index(z) and far.index(z) < far.index(y)
    one, two, three = more
    rising = far.index(one) < far.index(two) < far.index(three)
    return rising and two in near and one not in near and three in walk(inner, one)


def all_values(places):
    """All values of the forms of reasons."""
    for word, many in (("apart", 2), ("round", 3), ("cross", 4)):
        for told in product(range(places), repeat=many):
            yield (word,) + told


def drawn_deed(random, places):
    return tuple(random.sample(range(places), places))


def times_judged(call, *args):
    """How often a call judges whether something is a deed."""
    with patch("renamedown.base.deeds.is_deed", wraps=is_deed) as judge:
        call(*args)
    return judge.call_count


class BetweenCase(Case):
    def cut(self, random, whole):
        """A deed that lies in the whole."""
        ring = random.choice(rings_of(whole))
        if len(ring) == 1:
            return whole
        a, b = sorted(random.sample(range(len(ring)), 2))
        exchange = tuple(sorted((ring[a], ring[b])))
        return behind(exchange_deed(len(whole), exchange), whole)

    def check_reason(self, inner, whole):
        reason = any_apartness(inner, whole)
        paper = between_paper(inner, whole)
        if lies_in(inner, whole):
            self.assertIsNone(reason)
            self.assertEqual(paper[0], "way")
            self.assertIs(is_least(whole, paper[1]), True)
            self.assertEqual(done_in_turn(len(whole), paper[1][:least_steps(inner)]), inner)
        else:
            self.assertIs(is_reason(inner, whole, reason), True)
            self.assertIs(is_apartness(inner, whole, reason), True)
            self.assertEqual(paper[0], "reason")
            self.assertIs(is_reason(inner, whole, paper[1]), True)
        self.assertIs(is_between_paper(inner, whole, paper), True)


class LyingTest(BetweenCase):
    def test_by_force(self):
        for places in (1, 2, 3, 4):
            for whole in all_deeds(places):
                right = begun(whole)
                for inner in all_deeds(places):
                    self.assertIs(lies_in(inner, whole), inner in right)
                    self.assertIs(lies_by_definition(inner, whole), inner in right)
                    self.assertIs(lies_by_rings(inner, whole), inner in right)
                    self.assertEqual(behind(inner, rest_of(inner, whole)), whole)
                self.assertEqual(deeds_within(whole), tuple(sorted(right)))
                counted = Counter(least_steps(inner) for inner in right)
                self.assertEqual(count_by_steps(whole), tuple(counted[many] for many in range(least_steps(whole) + 1)))
                self.assertEqual(count_within(whole), len(right))

    def test_five_places(self):
        for whole in all_deeds(5)[::7] + [ROUND[5]]:
            right = begun(whole)
            for inner in all_deeds(5):
                self.assertIs(lies_in(inner, whole), inner in right)
                self.assertIs(lies_by_rings(inner, whole), inner in right)
            self.assertEqual(deeds_within(whole), tuple(sorted(right)))
            self.assertEqual(count_within(whole), len(right))

    def test_drawn_deeds_of_many_places(self):
        random = Random(171)
        for places in (6, 8, 10, 12):
            for _ in range(60):
                whole = drawn_deed(random, places)
                middle = self.cut(random, whole)
                for inner in (middle, self.cut(random, middle), drawn_deed(random, places), whole, rest_deed(places)):
                    right = lies_by_rings(inner, whole)
                    self.assertIs(lies_in(inner, whole), right)
                    self.check_reason(inner, whole)
                self.assertIs(lies_in(middle, whole), True)


class ReasonTest(BetweenCase):
    def check_all(self, inner, whole):
        right = [value for value in all_values(len(whole)) if is_reason(inner, whole, value)]
        self.assertEqual([value for value in all_values(len(whole)) if is_apartness(inner, whole, value)], right)
        self.assertIs(lies_in(inner, whole), right == [])
        for value in right[:5] + [("apart", 0, 0)]:
            self.assertIs(is_between_paper(inner, whole, ("reason", value)), value in right)
        for value in right[:3] + right[-3:]:
            self.check_changed(inner, whole, value)
        self.check_reason(inner, whole)

    def check_changed(self, inner, whole, value):
        """Check that a reason with another word or another number of places is none."""
        others = [(word,) + value[1:] for word in ("apart", "round", "cross", "Cross", None, 0) if word != value[0]]
        others += [value + (place,) for place in range(len(whole))] + [value[:-1], value[1:], list(value), value[:1] + value]
        for other in others:
            self.assertIs(is_apartness(inner, whole, other), False, other)
        for word in ("Reason", "way", None, value):
            self.assertIs(is_between_paper(inner, whole, (word, value)), False)

    def test_reasons_by_force(self):
        for places in (1, 2, 3):
            for whole in all_deeds(places):
                for inner in all_deeds(places):
                    self.check_all(inner, whole)
        for whole in all_deeds(4)[::5] + [ROUND[4]]:
            for inner in all_deeds(4):
                self.check_all(inner, whole)

    def test_reasons_of_five_and_six_places(self):
        random = Random(172)
        for _ in range(12):
            self.check_all(drawn_deed(random, 5), drawn_deed(random, 5))
            self.check_all(drawn_deed(random, 5), ROUND[5])
        self.check_all((2, 3, 0, 1, 5, 4), ROUND[6])
        self.check_all((3, 1, 2, 0, 4, 5), ROUND[6])
        self.check_all((3, 4, 2, 0, 1, 5), ROUND[6])

    def test_rings_in_the_order_of_the_whole(self):
        random, seen = Random(174), Counter()
        for places in (6, 9, 12):
            for many in (2, 3, 4, 5):
                for _ in range(60):
                    names = drawn_deed(random, places)
                    parts = [[] for _ in range(many)]
                    for place in range(places):
                        random.choice(parts).append(names[place])
                    rings = tuple(tuple(part) for part in parts if part)
                    inner, whole = deed_of_rings(places, rings), deed_of_rings(places, (names,))
                    self.assertIs(lies_in(inner, whole), lies_by_rings(inner, whole))
                    self.check_reason(inner, whole)
                    # Each ring passes its places as the whole does, so it can only be crossed.
                    reason = any_apartness(inner, whole)
                    seen[reason and reason[0]] += 1
        self.assertEqual(sorted(seen, key=str), [None, "cross"])
        self.assertGreater(min(seen.values()), 50)

    def test_one_place_and_deeds_at_rest(self):
        self.assertEqual([lies_in((0,), (0,)), rest_of((0,), (0,)), any_apartness((0,), (0,)), between_paper((0,), (0,))],
                         [True, (0,), None, ("way", ())])
        for places in (1, 5, 12):
            rest = rest_deed(places)
            self.assertEqual([count_within(rest), count_by_steps(rest), deeds_within(rest)], [1, (1,), (rest,)])
            self.assertIs(is_between_paper(rest, rest, ("way", ())), True)

    def test_twelve_places(self):
        whole = ROUND[12]
        self.assertIs(is_apartness((2, 3, 0, 1) + tuple(range(4, 12)), whole, ("cross", 0, 1, 2, 3)), True)
        self.assertIs(is_apartness((2, 3, 0, 1) + tuple(range(4, 12)), whole, ("cross", 3, 0, 1, 2)), True)
        self.assertIs(is_apartness((2, 3, 0, 1) + tuple(range(4, 12)), whole, ("cross", 0, 3, 2, 1)), False)
        turned = (11,) + tuple(range(11))
        self.assertIs(is_apartness(turned, whole, ("round", 0, 11, 1)), True)
        self.assertIs(is_apartness(turned, whole, ("round", 0, 1, 11)), False)
        self.assertIs(is_apartness(whole, rest_deed(12), ("apart", 0, 11)), True)
        self.assertIs(is_apartness(whole, rest_deed(12), ("apart", 11, 0)), False)

    def test_true_is_not_1(self):
        inner, whole = (1, 0), (0, 1)
        self.assertIs(is_apartness(inner, whole, ("apart", 0, 1)), True)
        for value in (("apart", 0, True), ("apart", False, 1), ("apart", 0, 1, 1), ("apart", 0), ["apart", 0, 1], ("apart",),
                      ("Apart", 0, 1), ("apart", (0, 1)), ("apart", 0, LONG), ("apart", 0, -1), ("apart", 0, 2), (0, 1, "apart"),
                      ("reason", ("apart", 0, 1)), ("cross", 0, 1), ("round", 0, 1), ("apart", "0", "1"), (), ("apart", 0, None)):
            self.assertIs(is_apartness(inner, whole, value), False)
            self.assertIs(is_between_paper(inner, whole, ("reason", value)), False)

    def test_every_value_is_judged(self):
        for inner, whole in (((1, 0), (0, 1)), ((1, 0, 2), (1, 2, 0)), ((2, 3, 0, 1), (1, 2, 3, 0)), ((2, 0, 1), (1, 2, 0))):
            self.assertEqual(self.judged(is_apartness, inner, whole), [])
            self.assertEqual(self.judged(is_between_paper, inner, whole), [])
            for word in ("way", "reason", None, 0):
                self.assertEqual(self.judged(lambda value: is_between_paper(inner, whole, (word, value))), [])
        self.assertEqual(self.judged(lambda value: is_between_paper((0,), (0,), ("way", value))), [()])

    def test_judging_raises_for_the_deeds_only(self):
        for call in (is_apartness, is_between_paper):
            for value in NO_DEEDS:
                self.told(InvalidDeed, call, value, (0, 1), None)
                self.told(InvalidDeed, call, (0, 1), value, None)
            self.told(InvalidOperation, call, (0, 1), (0,), None)


class PaperTest(Case):
    def test_all_ways_by_force(self):
        for places in (2, 3, 4):
            for whole in all_deeds(places)[::3] + [ROUND[places]]:
                for inner in all_deeds(places):
                    for exchanges in least_tuples(whole):
                        right = done_in_turn(places, exchanges[:least_steps(inner)]) == inner and lies_in(inner, whole)
                        self.assertIs(is_between_paper(inner, whole, ("way", exchanges)), right)

    def test_wrong_papers(self):
        inner, whole = (1, 0, 2), (1, 2, 0)
        right = ("way", ((0, 1), (0, 2)))
        self.assertIs(is_between_paper(inner, whole, right), True)
        for value in (list(right), ("way",), right + (0,), ("Way", right[1]), ("moves", right[1]), ("reason", right[1]), right[1],
                      ("way", ((0, 2), (1, 2))), ("way", ((1, 2), (0, 1))), ("way", ((0, 1),)), ("way", ((0, 1), (0, 2), (0, 2))),
                      ("way", ((0, True), (0, 2))), ("way", [(0, 1), (0, 2)]), ("way", ([0, 1], (0, 2))), ("way", ((1, 0), (0, 2))),
                      ("reason", None), ("reason", ("apart", 0, 1)), ("way", None), (right[1], "way")):
            self.assertIs(is_between_paper(inner, whole, value), False, value)

    def test_a_deed_that_does_not_lie_in_the_whole_has_no_way(self):
        self.assertIs(is_between_paper((1, 2, 0), (1, 0, 2), ("way", ((0, 1),))), False)
        self.assertIs(is_between_paper((0, 2, 1), (1, 0, 2), ("way", ((0, 1),))), False)
        self.assertIs(is_between_paper((0, 2, 1), (1, 0, 2), ("reason", ("apart", 1, 2))), True)


class NumbersTest(Case):
    def test_constant(self):
        self.assertEqual(between.MAX_WITHIN, 5000)

    def test_formulas(self):
        for places, whole in ROUND.items():
            self.assertEqual(count_within(whole), factorial(2 * places) // factorial(places) // factorial(places + 1))
            counts = count_by_steps(whole)
            self.assertEqual(counts, tuple(comb(places, r) * comb(places, r + 1) // places for r in range(places)))
        self.assertEqual([count_within(ROUND[9]), count_within(ROUND[12])], [4862, 208012])

    def test_several_rings(self):
        for lengths in ((2, 2), (1, 3, 2), (4, 1, 1), (3, 3, 3), (2, 2, 2, 2), (5, 2), (1,) * 12, (6, 6), (4, 4, 4), (2, 3, 7)):
            whole, many = in_rings(lengths), 1
            for length in lengths:
                many *= count_within(ROUND[length])
            self.assertEqual(count_within(whole), many)
            counts = count_by_steps(whole)
            self.assertEqual((sum(counts), len(counts), counts[0], counts[-1]), (many, least_steps(whole) + 1, 1, 1))
            self.assertEqual(counts, counts[::-1])
            if many <= 5000:
                within = deeds_within(whole)
                self.assertEqual((len(set(within)), list(within)), (many, sorted(within)))
                self.assertTrue(all(lies_in(inner, whole) for inner in within[::9]))
                self.assertEqual(Counter(map(least_steps, within)), {at: count for at, count in enumerate(counts)})

    def test_5000_and_more(self):
        begin = perf_counter()
        self.assertEqual(len(deeds_within(ROUND[9])), 4862)
        self.assertEqual(len(deeds_within(in_rings((7, 3, 2)))), 4290)
        for whole in (ROUND[10], ROUND[12], in_rings((6, 5)), in_rings((8, 2, 2)), in_rings((7, 4))):
            self.assertGreater(count_within(whole), 5000)
            self.assertEqual(self.told(TooMany, deeds_within, whole).limit, 5000)
        self.assertEqual(len(deeds_within(in_rings((8, 2, 1, 1)))), 2860)
        self.assertLess(perf_counter() - begin, 4)

    def test_deeds_of_twelve_places_are_counted_soon(self):
        random = Random(173)
        begin = perf_counter()
        for _ in range(40):
            whole, inner = drawn_deed(random, 12), drawn_deed(random, 12)
            self.assertEqual(sum(count_by_steps(whole)), count_within(whole))
            for call in CALLS:
                call(inner, whole)
            self.assertGreaterEqual(count_least(whole), 1)
        self.assertLess(perf_counter() - begin, 4)

    def test_each_deed_is_judged_once(self):
        whole, inner, apart = ROUND[6], (1, 0, 2, 3, 4, 5), (2, 3, 0, 1, 5, 4)
        for call in CALLS:
            self.assertEqual([times_judged(call, inner, whole), times_judged(call, apart, whole)], [2, 2])
        for value in (("apart", 0, 1), ("round", 0, 1, 2), ("cross", 0, 1, 2, 3)):
            self.assertEqual(times_judged(is_apartness, apart, whole, value), 2)
            self.assertEqual(times_judged(is_between_paper, apart, whole, ("reason", value)), 2)
        self.assertEqual(times_judged(is_between_paper, inner, whole, between_paper(inner, whole)), 2)

    def test_wrong_deeds(self):
        for value in NO_DEEDS:
            for call in (count_within, count_by_steps, deeds_within):
                self.told(InvalidDeed, call, value)
            for call in CALLS:
                self.told(InvalidDeed, call, value, (0, 1))
                self.told(InvalidDeed, call, (0, 1), value)
                self.told(InvalidDeed, call, (0, 1, 2), value)
        for call in CALLS:
            self.told(InvalidOperation, call, (0, 1), (0, 1, 2))
            self.told(InvalidOperation, call, ROUND[12], ROUND[11])
