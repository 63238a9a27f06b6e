"""Deeds [0.7], [2.1], [2.2]."""

import unittest
from itertools import permutations

from renamedown.base.deeds import any_names, back_of, behind, count_deeds, deed_at, deed_of_rings
from renamedown.base.deeds import exchange_deed, index_of, is_deed, is_even, least_steps, order_of
from renamedown.base.deeds import power_of, read_deed, renamed_deed, rest_deed, ring_lengths, rings_of
from renamedown.base.deeds import write_deed
from renamedown.base.words import is_exchange, is_integer, is_number_of_places
from renamedown.errors import InvalidDeed, InvalidOperation, ParseError
from tests.common import LONG, LONGEST, STRANGE, Case, all_but

ALL = {places: list(permutations(range(places))) for places in range(1, 6)}
SMALL = [deed for places in range(1, 5) for deed in ALL[places]]
ROUND = (1, 2, 3, 4, 5, 6, 7, 8, 9, 10, 11, 0)
MIXED = (1, 0, 3, 4, 2, 6, 7, 8, 9, 5, 11, 10)
NO_DEEDS = all_but((0,), (0, 1), (1, 0)) + [
    tuple(range(13)), (0, 2), (1, 2), (-1, 0), (0, 0), (False, 1), (0, 1, 2, True), [1, 0], "10", ((0,),), (LONG, 0)]
NO_PLACES = [value for value in STRANGE if not is_number_of_places(value)] + [0, 13, -1]
NO_INTEGERS = [value for value in STRANGE if not is_integer(value)]


def done(deed, times):
    """Where each thing lies behind so many times, one after the other."""
    where = list(range(len(deed)))
    for _ in range(times):
        where = [deed[place] for place in where]
    return tuple(where)


class KindsTest(Case):
    def test_deeds_are_tuples_with_each_place_once(self):
        for deed in SMALL + [ROUND, MIXED, tuple(range(12))]:
            self.assertIs(is_deed(deed), True)
        for value in NO_DEEDS:
            self.assertIs(is_deed(value), False, value)

    def test_every_value_is_judged(self):
        self.assertEqual(self.judged(is_deed), [(0,), (0, 1), (1, 0)])
        self.assertEqual(self.judged(is_even), [(0,), (0, 1)])

    def test_every_call_refuses_what_is_no_deed(self):
        for value in NO_DEEDS:
            for call in (rings_of, ring_lengths, back_of, order_of, least_steps, index_of, write_deed):
                self.told(InvalidDeed, call, value)
            for call in (behind, renamed_deed, any_names):
                self.told(InvalidDeed, call, value, (1, 0))
                self.told(InvalidDeed, call, (2, 1, 0), value)
                self.told(InvalidDeed, call, value, None)
            self.told(InvalidDeed, power_of, value, 2)
            self.told(InvalidDeed, power_of, value, None)

    def test_every_call_refuses_numbers_of_places(self):
        for value in NO_PLACES:
            self.assertIs(self.refused(rest_deed, value), value)
            for call, right in ((exchange_deed, (0, 1)), (deed_of_rings, ()), (deed_at, 0)):
                for other in (right, None, [()], -1):
                    self.assertIs(self.refused(call, value, other), value)

    def test_unlike_numbers_of_places(self):
        for call in (behind, renamed_deed, any_names):
            self.told(InvalidOperation, call, (0, 1), (0, 1, 2))
            self.told(InvalidOperation, call, ROUND, (0,))


class MakingTest(Case):
    def test_rest(self):
        for places in range(1, 13):
            self.assertEqual(rest_deed(places), tuple(range(places)))

    def test_exchange_deeds(self):
        for places in (2, 3, 12):
            for b in range(places):
                for a in range(b):
                    deed = exchange_deed(places, (a, b))
                    self.assertEqual((deed[a], deed[b]), (b, a))
                    self.assertEqual([x for x in range(places) if deed[x] != x], [a, b])

    def test_exchange_deeds_refuse_what_is_no_exchange(self):
        for value in [value for value in STRANGE if not is_exchange(3, value)] + [(0, 3), (2, 1), (1, 1), (0, 1, 2)]:
            self.told(InvalidOperation, exchange_deed, 3, value)
        self.told(InvalidOperation, exchange_deed, 1, (0, 1))

    def test_rings(self):
        self.assertEqual(rings_of((0,)), ((0,),))
        self.assertEqual(rings_of(ROUND), (tuple(range(12)),))
        self.assertEqual(rings_of(back_of(ROUND)), ((0, 11, 10, 9, 8, 7, 6, 5, 4, 3, 2, 1),))
        self.assertEqual(rings_of(MIXED), ((0, 1), (2, 3, 4), (5, 6, 7, 8, 9), (10, 11)))
        self.assertEqual(rings_of((3, 4, 0, 2, 1)), ((0, 3, 2), (1, 4)))
        for deed in SMALL:
            rings = rings_of(deed)
            self.assertEqual(list(rings), sorted(rings))
            self.assertEqual(sorted(place for ring in rings for place in ring), list(range(len(deed))))
            for ring in rings:
                self.assertEqual(ring[0], min(ring))
                self.assertEqual([deed[place] for place in ring], list(ring[1:] + ring[:1]))

    def test_ring_lengths(self):
        self.assertEqual(ring_lengths(MIXED), (2, 2, 3, 5))
        self.assertEqual(ring_lengths((2, 1, 0)), (1, 2))
        self.assertEqual(ring_lengths(rest_deed(12)), (1,) * 12)

    def test_deeds_of_rings(self):
        for deed in SMALL + [ROUND, MIXED]:
            rings = rings_of(deed)
            moving = tuple(ring[1:] + ring[:1] for ring in rings[::-1] if len(ring) > 1)
            self.assertEqual(deed_of_rings(len(deed), rings), deed)
            self.assertEqual(deed_of_rings(len(deed), moving), deed)
            self.assertEqual(deed_of_rings(len(deed), tuple(ring[-1:] + ring[:-1] for ring in rings)), deed)
        self.assertEqual(deed_of_rings(12, ()), rest_deed(12))
        self.assertEqual(deed_of_rings(3, ((2,), (1, 0))), (1, 0, 2))

    def test_deeds_of_rings_refuse_what_are_no_rings(self):
        for value in all_but((), ((0,),), ((0, 1),)) + [((),), ((0, 1), ()), ((0, 0),), ((0, 1), (1,)), ((0, 3),), ((-1, 0),), ([0, 1],),
                              [(0, 1)], ((0, True),), ((False, 1),), (0, 1), ((0, (1,)),), ((0, LONG),), "01"]:
            self.told(InvalidOperation, deed_of_rings, 3, value)
        self.told(InvalidOperation, deed_of_rings, 1, ((1,),))


class DoingTest(Case):
    def test_behind_does_the_one_and_then_the_other(self):
        for places in range(1, 5):
            for one in ALL[places]:
                for other in ALL[places]:
                    both = behind(one, other)
                    self.assertEqual(both, tuple(other[one[place]] for place in range(places)))

    def test_back(self):
        for deed in SMALL + [ROUND, MIXED]:
            self.assertEqual(behind(deed, back_of(deed)), rest_deed(len(deed)))
            self.assertEqual(behind(back_of(deed), deed), rest_deed(len(deed)))

    def test_powers(self):
        for deed in SMALL + [MIXED]:
            for times in range(14):
                self.assertEqual(power_of(deed, times), done(deed, times))
                self.assertEqual(power_of(deed, -times), done(back_of(deed), times))

    def test_powers_of_many_digits(self):
        for exponent in (LONGEST, -LONGEST, 10 ** 199, 7 - 10 ** 199):
            for deed in (ROUND, MIXED, (1, 2, 0)):
                self.assertEqual(power_of(deed, exponent), done(deed, exponent % order_of(deed)))

    def test_powers_refuse_what_is_no_integer(self):
        for value in NO_INTEGERS:
            self.assertIs(self.refused(power_of, (1, 0), value), value)

    def test_order(self):
        for deed in SMALL + [MIXED, ROUND]:
            times = 1
            while done(deed, times) != rest_deed(len(deed)):
                times += 1
            self.assertEqual(order_of(deed), times)
        self.assertEqual(order_of(deed_of_rings(12, ((0, 1, 2), (3, 4, 5, 6), (7, 8, 9, 10, 11)))), 60)

    def test_least_steps_and_evenness_by_force(self):
        for places in range(1, 6):
            steps, level = {rest_deed(places): 0}, [rest_deed(places)]
            swaps = [exchange_deed(places, (a, b)) for b in range(places) for a in range(b)]
            while level:
                following = [behind(deed, swap) for deed in level for swap in swaps]
                level = [deed for deed in dict.fromkeys(following) if deed not in steps]
                steps.update({deed: max(steps.values()) + 1 for deed in level})
            self.assertEqual(sorted(steps), ALL[places])
            for deed, many in steps.items():
                self.assertEqual(least_steps(deed), many)
                self.assertIs(is_even(deed), many % 2 == 0)

    def test_renaming(self):
        for places in range(1, 5):
            for deed in ALL[places]:
                for names in ALL[places]:
                    renamed = renamed_deed(deed, names)
                    for place in range(places):
                        self.assertEqual(renamed[names[place]], names[deed[place]])

    def test_any_names(self):
        for places in range(1, 5):
            for one in ALL[places]:
                for other in ALL[places]:
                    names = any_names(one, other)
                    if ring_lengths(one) == ring_lengths(other):
                        self.assertEqual(renamed_deed(one, names), other)
                    else:
                        self.assertIsNone(names)
        shuffled = renamed_deed(MIXED, (7, 3, 11, 0, 2, 1, 10, 9, 4, 5, 8, 6))
        self.assertEqual(renamed_deed(MIXED, any_names(MIXED, shuffled)), shuffled)
        self.assertIsNone(any_names(MIXED, ROUND))


class CountingTest(Case):
    def test_count_by_force(self):
        for places in range(1, 6):
            lengths = [ring_lengths(deed) for deed in ALL[places]]
            for one in set(lengths):
                self.assertEqual(count_deeds(one), lengths.count(one))

    def test_count_of_twelve_places(self):
        self.assertEqual(count_deeds((12,)), 39916800)
        self.assertEqual(count_deeds((1,) * 12), 1)
        self.assertEqual(count_deeds((2,) * 6), 10395)
        self.assertEqual(count_deeds((1, 1, 2, 2, 3, 3)), 479001600 // (2 * 2 * 2 * 2 * 3 * 3 * 2))

    def test_count_refuses_what_are_no_lengths(self):
        for value in list(STRANGE) + [
                (0, 1), (2, 1), (13,), (1,) * 13, (6, 7), (1, True), (True,), (1, -1, 3), [1, 3], (1, None),
                (1, (2,)), (LONGEST, LONGEST), (-1, 2), (1, 2, "3"), "12"]:
            self.told(InvalidOperation, count_deeds, value)
        self.assertEqual(count_deeds((1,)), 1)

    def test_indices_by_force(self):
        for places in range(1, 6):
            for index, deed in enumerate(sorted(ALL[places])):
                self.assertEqual(deed_at(places, index), deed)
                self.assertEqual(index_of(deed), index)

    def test_indices_of_twelve_places(self):
        self.assertEqual(deed_at(12, 0), rest_deed(12))
        self.assertEqual(deed_at(12, 479001599), rest_deed(12)[::-1])
        self.assertEqual(index_of(rest_deed(12)[::-1]), 479001599)
        for index in (1, 11, 39916800, 123456789, 479001598):
            self.assertEqual(index_of(deed_at(12, index)), index)

    def test_indices_refuse_what_is_none(self):
        for value in NO_INTEGERS + [-1, 6, 7, -LONGEST, LONGEST]:
            self.assertIs(self.refused(deed_at, 3, value), value)
        self.assertEqual(self.refused(deed_at, 12, 479001600), 479001600)
        self.assertEqual(self.refused(deed_at, 1, 1), 1)


class TextTest(Case):
    def test_texts(self):
        for deed, text in (((0,), "(0)"), ((1, 0), "(0 1)"), ((0, 1), "(0)(1)"), ((2, 0, 1, 3), "(0 2 1)(3)"),
                           (MIXED, "(0 1)(2 3 4)(5 6 7 8 9)(10 11)"), (ROUND, "(0 1 2 3 4 5 6 7 8 9 10 11)")):
            self.assertEqual(write_deed(deed), text)
            self.assertEqual(read_deed(text), deed)
        for deed in SMALL:
            self.assertEqual(read_deed(write_deed(deed)), deed)

    def test_what_is_no_text_of_a_deed(self):
        wrong = ["", "()", "(", ")", "0", "0)", "(0", "(1)", "(0)(2)", "(1 0)", "(1)(0)", "(0 2)(1 )", "(0  1)", "( 0 1)",
                 "(0 1) ", " (0 1)", "(0 1)\n", "(0,1)", "(0)(0)", "(0 0)", "(00)", "(0 01)", "(-0)", "(+0)", "[0 1]",
                 "(0) (1)", "(0)(1)()", "((0))", "(0 1)(2", "(0 1 3 2)(4", "(0 1 2 3 4 5 6 7 8 9 10 11 12)",
                 "(0 1 2 3 4 5 6 7 8 9 10 11)(12)", "(a)", "(0 1\n)", "(\u0661 0)", "(0 \u00b9)", "x0 1x", "(0)(1)x",
                 "(2)(0 1)", "(0 2 1)(3)(", "(1 2 0)", "(0)1(2)"]
        for value in wrong + all_but("(0)"):
            error = self.told(ParseError, read_deed, value)
            self.assertIsNone(error.line)


if __name__ == "__main__":
    unittest.main()
