"""The lattice of a deed: meets, joins, mates, rises, full chains and balances [18.1] to [18.6]."""

from collections import Counter
from itertools import product
from math import comb, factorial
from random import Random
from time import perf_counter

from renamedown.base.deeds import behind, least_steps, renamed_deed, rest_deed, ring_lengths, rings_of
from renamedown.base.words import is_integer
from renamedown.count import lattice
from renamedown.count.between import count_within, deeds_within, lies_in
from renamedown.count.lattice import balance, chain_of, count_rises, exchanges_between, is_full_chain, is_rise, join
from renamedown.count.lattice import mate_ahead, mate_behind, meet, rises
from renamedown.count.least import count_least, is_least, least_tuples
from renamedown.errors import InvalidDeed, InvalidOperation, TooMany
from tests.common import LONGEST, STRANGE, Case
from tests.test_between import ROUND, all_deeds, done_in_turn, drawn_deed, in_rings, times_judged
from tests.test_plain import NO_DEEDS

WHOLES = [whole for places in (1, 2, 3, 4) for whole in all_deeds(places)[::2]] + [ROUND[4], ROUND[5], (4, 2, 1, 0, 3)]
NO_LENGTHS = [value for value in STRANGE if not is_integer(value)] + [-1, 21, LONGEST]


class LatticeTest(Case):
    def test_meets_and_joins_by_definition(self):
        for whole in WHOLES:
            within = deeds_within(whole)
            below = {(inner, outer) for inner in within for outer in within if lies_in(inner, outer)}
            for one in within:
                for other in within:
                    low = [deed for deed in within if (deed, one) in below and (deed, other) in below]
                    high = [deed for deed in within if (one, deed) in below and (other, deed) in below]
                    met = [deed for deed in low if all((lower, deed) in below for lower in low)]
                    joined = [deed for deed in high if all((deed, upper) in below for upper in high)]
                    self.assertEqual([meet(whole, one, other)], met)
                    self.assertEqual([join(whole, one, other)], joined)

    def test_rings_of_meets(self):
        random = Random(181)
        for whole in (ROUND[6], (5, 3, 4, 1, 2, 0), (1, 2, 0, 4, 5, 3)):
            within = deeds_within(whole)
            for _ in range(60):
                one, other = random.choice(within), random.choice(within)
                common = {tuple(sorted(set(ring) & set(part))) for ring in rings_of(one) for part in rings_of(other)}
                self.assertEqual({tuple(sorted(ring)) for ring in rings_of(meet(whole, one, other))}, common - {()})

    def test_mates(self):
        for whole in WHOLES:
            within = deeds_within(whole)
            for inner in within:
                later, ahead = mate_behind(whole, inner), mate_ahead(whole, inner)
                self.assertEqual((behind(inner, later), behind(ahead, inner)), (whole, whole))
                self.assertTrue(lies_in(later, whole) and lies_in(ahead, whole))
                self.assertEqual((mate_ahead(whole, later), mate_behind(whole, ahead)), (inner, inner))
                self.assertEqual(mate_behind(whole, later), renamed_deed(inner, whole))

    def test_mates_exchange_meets_and_joins(self):
        for whole in (ROUND[4], (1, 0, 3, 4, 2), ROUND[5]):
            within = deeds_within(whole)
            for one in within[::2]:
                for other in within:
                    for mate in (mate_behind, mate_ahead):
                        left, right = mate(whole, one), mate(whole, other)
                        self.assertIs(lies_in(one, other), lies_in(right, left))
                        self.assertEqual(mate(whole, meet(whole, one, other)), join(whole, left, right))
                        self.assertEqual(mate(whole, join(whole, one, other)), meet(whole, left, right))

    def test_balances(self):
        for whole in WHOLES:
            within, told = deeds_within(whole), {}
            for inner in sorted(within, key=least_steps, reverse=True):
                above = sum(told[outer] for outer in told if lies_in(inner, outer))
                told[inner] = 1 if inner == whole else -above
                self.assertEqual(balance(whole, inner), told[inner])

    def test_balances_of_many_places(self):
        for places, whole in ROUND.items():
            many = factorial(2 * places - 2) // factorial(places - 1) // factorial(places)
            self.assertEqual(balance(whole, rest_deed(places)), many if places % 2 else -many)
            self.assertEqual(balance(whole, whole), 1)

    def test_one_place_and_deeds_at_rest(self):
        for places in (1, 3, 12):
            rest = rest_deed(places)
            self.assertEqual([meet(rest, rest, rest), join(rest, rest, rest), mate_behind(rest, rest), mate_ahead(rest, rest)],
                             [rest] * 4)
            self.assertEqual([balance(rest, rest), count_rises(rest, 20), rises(rest, 20)], [1, 1, ((rest,) * 20,)])
            self.assertEqual([chain_of(rest, ()), exchanges_between(rest, (rest,))], [(rest,), ()])

    def test_twelve_places(self):
        random, begin = Random(182), perf_counter()
        for _ in range(30):
            whole = drawn_deed(random, 12)
            one, other = self.inner(random, whole), self.inner(random, whole)
            low, high = meet(whole, one, other), join(whole, one, other)
            for inner in (one, other):
                self.assertTrue(lies_in(low, inner) and lies_in(inner, high) and lies_in(high, whole))
                self.assertEqual(mate_ahead(whole, mate_behind(whole, inner)), inner)
            self.assertEqual(join(whole, low, high), high)
            self.assertIs(is_rise(whole, (low, one, high)), True)
            self.assertIsInstance(balance(whole, low), int)
        self.assertLess(perf_counter() - begin, 4)

    def inner(self, random, whole):
        """A deed that lies in the whole: of the first exchanges of a least tuple."""
        chain = chain_of(whole, self.drawn_least(random, whole))
        return random.choice(chain)

    def drawn_least(self, random, whole):
        exchanges, left = (), whole
        while least_steps(left) > 0:
            ring = random.choice([ring for ring in rings_of(left) if len(ring) > 1])
            exchange = tuple(sorted(random.sample(ring, 2)))
            exchanges += (exchange,)
            left = behind(done_in_turn(len(whole), (exchange,)), left)
        return exchanges

    def test_each_deed_is_judged_once(self):
        for call, many in ((meet, 3), (join, 3), (mate_behind, 2), (mate_ahead, 2)):
            self.assertEqual(times_judged(call, *((1, 2, 0), (1, 0, 2), (0, 2, 1))[:many]), many)

    def test_errors_and_their_order(self):
        for call, many in ((meet, 3), (join, 3), (mate_behind, 2), (mate_ahead, 2), (balance, 2)):
            right = ((1, 2, 0), (1, 0, 2), (0, 2, 1))[:many]
            for value in NO_DEEDS:
                for at in range(many):
                    self.told(InvalidDeed, call, *right[:at], value, *right[at + 1:])
                    self.told(InvalidDeed, call, *((0,),) * at, value, *((0, 1),) * (many - at - 1))
            for at in range(1, many):
                for wrong in ((2, 0, 1), (0,), (0, 1), (0, 1, 2, 3), (1, 0, 3, 2)):
                    self.told(InvalidOperation, call, *right[:at], wrong, *right[at + 1:])
            self.told(InvalidOperation, call, (1, 0, 2), *right[1:-1], (0, 2, 1))
            self.told(InvalidOperation, call, (1, 0), *right[1:])
        for call in (meet, join):
            for value in NO_DEEDS:
                for wrong in ((2, 0, 1), (0, 1), (0,)):
                    self.told(InvalidDeed, call, (1, 2, 0), wrong, value)


class RisesTest(Case):
    def test_constants(self):
        self.assertEqual((lattice.MAX_RISES, lattice.MAX_LENGTH), (5000, 20))

    def test_by_force(self):
        for whole in WHOLES:
            within = deeds_within(whole)
            for length in range(4 if len(within) < 15 else 3):
                right = tuple(rise for rise in product(within, repeat=length)
                              if all(lies_in(one, other) for one, other in zip(rise, rise[1:])))
                self.assertEqual(rises(whole, length), right)
                self.assertEqual(count_rises(whole, length), len(right))
                self.assertTrue(all(is_rise(whole, rise) for rise in right))
        for whole in ((1, 0, 2), (2, 0, 1)):
            deeds = all_deeds(3)
            for length in range(4):
                told = [rise for rise in product(deeds, repeat=length) if is_rise(whole, rise)]
                self.assertEqual(tuple(told), rises(whole, length))

    def test_numbers(self):
        for places, whole in ROUND.items():
            for length in range(21):
                self.assertEqual(count_rises(whole, length), comb((length + 1) * places, places - 1) // places)
            self.assertEqual(count_rises(whole, 1), count_within(whole))
        for lengths in ((2, 2), (3, 1, 2), (4, 4, 4), (1,) * 12, (6, 6), (2, 3, 7)):
            for length in (0, 1, 5, 20):
                many = 1
                for places in lengths:
                    many *= count_rises(ROUND[places], length)
                self.assertEqual(count_rises(in_rings(lengths), length), many)

    def test_lengths_0_and_20(self):
        begin = perf_counter()
        self.assertEqual([rises(ROUND[12], 0), count_rises(ROUND[12], 0)], [((),), 1])
        self.assertEqual([len(rises((1, 0), 20)), len(rises((1, 2, 0), 20)), len(rises((1, 0, 3, 2), 20))], [21, 651, 441])
        self.assertEqual(count_rises(ROUND[12], 20), comb(21 * 12, 11) // 12)
        self.assertIs(is_rise((1, 2, 0), rises((1, 2, 0), 20)[77]), True)
        self.assertLess(perf_counter() - begin, 4)

    def test_5000_and_more(self):
        self.assertEqual([count_rises(ROUND[9], 1), len(rises(ROUND[9], 1))], [4862, 4862])
        self.assertEqual([count_rises(ROUND[6], 2), len(rises(ROUND[6], 2))], [1428, 1428])
        # No number of rises is nearer to 5000 than 4950 and 5184.
        self.assertEqual(len(set(rises(in_rings((2, 3)), 14))), 4950)
        self.assertEqual(count_rises(in_rings((2, 3, 3, 3)), 2), 5184)
        for whole, length in ((in_rings((2, 3, 3, 3)), 2), (ROUND[10], 1), (ROUND[7], 2), (ROUND[4], 20), (in_rings((2, 2, 2)), 20), (ROUND[12], 3)):
            self.assertGreater(count_rises(whole, length), 5000)
            self.assertEqual(self.told(TooMany, rises, whole, length).limit, 5000)

    def test_many_rises_are_ascending(self):
        for whole, length in ((ROUND[5], 3), (in_rings((2, 3)), 6), (ROUND[4], 8), (ROUND[3], 15)):
            told = rises(whole, length)
            self.assertEqual((list(told), len(set(told))), (sorted(told), count_rises(whole, length)))
            self.assertTrue(all(is_rise(whole, rise) for rise in told[::11]))

    def test_what_is_a_rise(self):
        whole, inner, rest = (1, 2, 0), (1, 0, 2), (0, 1, 2)
        for value in ((), (inner,), (rest,) * 20, (whole,) * 20, (rest, inner, inner, whole), (inner,) * 20, (rest, whole)):
            self.assertIs(is_rise(whole, value), True)
        for value in ((rest,) * 21, (whole,) * 21, (inner, rest), (whole, inner), [inner], (list(inner),), inner, (inner, (0, 2, 1)),
                      ((2, 0, 1),), ((1, 0),), ((1, 0, 2, 3),), ((1, 0, True + 1), None), ((True, 0, 2),), (inner, ()), None,
                      (inner, whole, rest), ((0, 2, 1), (2, 0, 1)), (rest, (2, 0, 1), whole)):
            self.assertIs(is_rise(whole, value), False, value)
        self.assertEqual(self.judged(is_rise, (0,)), [(), ((0,),)])
        self.assertEqual(self.judged(is_rise, (1, 0)), [(), ((0, 1),)])

    def test_wrong_arguments(self):
        for value in NO_DEEDS:
            for call in (is_rise, count_rises, rises, is_full_chain, chain_of, exchanges_between):
                self.told(InvalidDeed, call, value, None)
        for call in (count_rises, rises):
            for value in NO_LENGTHS:
                self.assertIs(self.refused(call, ROUND[12], value), value)
                self.assertIs(self.refused(call, (0,), value), value)


class ChainTest(Case):
    def test_by_force(self):
        for whole in WHOLES:
            exchanges = least_tuples(whole)
            chains = [chain_of(whole, told) for told in exchanges]
            self.assertEqual(len(set(chains)), count_least(whole))
            for told, chain in zip(exchanges, chains):
                self.assertEqual(chain, tuple(done_in_turn(len(whole), told[:many]) for many in range(len(told) + 1)))
                self.assertIs(is_full_chain(whole, chain), True)
                self.assertEqual(exchanges_between(whole, chain), told)
            if len(whole) < 5:
                right = [rise for rise in rises(whole, least_steps(whole) + 1) if is_full_chain(whole, rise)]
                self.assertEqual(right, sorted(chains))

    def test_what_is_a_full_chain(self):
        whole, inner, rest = (1, 2, 0), (1, 0, 2), (0, 1, 2)
        self.assertIs(is_full_chain(whole, (rest, inner, whole)), True)
        for value in ((rest, whole), (rest, inner), (inner, whole), (rest, inner, inner, whole), (rest, rest, inner, whole), (),
                      [rest, inner, whole], (rest, inner, whole, whole), (whole, inner, rest), (rest, (2, 0, 1), whole), (whole,),
                      (rest, list(inner), whole), (rest, inner, (2, 0, 1)), (rest, (True, 0, 2), whole)):
            self.assertIs(is_full_chain(whole, value), False, value)
            self.told(InvalidOperation, exchanges_between, whole, value)
        self.assertEqual(self.judged(is_full_chain, (0,)), [((0,),)])
        self.assertEqual(self.judged(is_full_chain, (1, 0)), [])
        self.assertEqual(self.judged(is_full_chain, whole), [])
        self.assertIs(is_full_chain((1, 0), ((0, 1), (1, 0))), True)

    def test_twelve_places(self):
        whole = ROUND[12]
        exchanges = tuple((0, place) for place in range(1, 12))
        self.assertIs(is_least(whole, exchanges), True)
        chain = chain_of(whole, exchanges)
        self.assertEqual((len(chain), chain[0], chain[-1]), (12, rest_deed(12), whole))
        self.assertEqual(exchanges_between(whole, chain), exchanges)
        self.assertEqual(Counter(map(least_steps, chain)), Counter(range(12)))
        self.assertEqual(ring_lengths(chain[5]), (1,) * 6 + (6,))

    def test_what_is_not_least(self):
        whole = (1, 2, 0)
        for value in list(STRANGE) + [((0, 1),), ((0, 2), (0, 1)), ((0, 1), (0, 2), (0, 2)), [(0, 1), (0, 2)], ((0, 1), (0, True))]:
            self.told(InvalidOperation, chain_of, whole, value)
            self.told(InvalidOperation, exchanges_between, whole, value)
