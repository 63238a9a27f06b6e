"""Numbers of tuples of exchanges [9.1] to [9.3]."""

from functools import cache
from itertools import product
from math import comb, factorial
from time import perf_counter

from renamedown.base.deeds import behind, count_deeds, deed_of_rings, exchange_deed, ring_lengths
from renamedown.base.words import is_integer
from renamedown.count import numbers
from renamedown.count.numbers import all_lengths, count_all, count_flat, count_joined, count_parted, cuts_of
from renamedown.count.numbers import handles_in, is_lengths
from renamedown.errors import InvalidNumber, InvalidOperation
from renamedown.rows.rows import Row
from renamedown.rows.webs import groups_of
from tests.common import LONG, LONGEST, STRANGE, TRIO, Case
from tests.test_plain import partings

NO_INTEGERS = [value for value in STRANGE if not is_integer(value)]
WRONG = [(), (0,), (0, 1), (2, 1), (13,), (1,) * 13, (6, 7), (True,), (1, True), (-1, 3), [1], [1, 2], "1", 1, None,
         (1, "2"), ((1,),), (LONG,), (LONGEST,), (1, None), {1: 2}, TRIO, (-5, 6), (1, (2,))]


def deed_with(lengths):
    """A deed with these ring lengths."""
    rings, place = [], 0
    for length in lengths:
        rings.append(tuple(range(place, place + length)))
        place += length
    return deed_of_rings(place, tuple(rings))


def pairs_of(places):
    """All exchanges of so many places."""
    return [(a, b) for b in range(places) for a in range(b)]


def rows_with(deed, many):
    """All rows of so many steps with a deed, owned by one."""
    rows = [Row(len(deed), tuple((a, b, "a") for a, b in chosen))
            for chosen in product(pairs_of(len(deed)), repeat=many)]
    return [row for row in rows if row.deed == deed]


class LengthsTest(Case):
    def test_constants(self):
        self.assertEqual([numbers.MAX_PLACES, numbers.MAX_STEPS], [12, 24])

    def test_ring_lengths(self):
        for value in ((1,), (12,), (1,) * 12, (1, 2, 3, 6), (6, 6), (5, 7), (1, 1, 2)):
            self.assertIs(is_lengths(value), True)
        for value in WRONG:
            self.assertIs(is_lengths(value), False, value)

    def test_every_value_is_judged(self):
        self.assertEqual(self.judged(is_lengths), [])

    def test_all_lengths(self):
        self.assertEqual([all_lengths(1), all_lengths(2), all_lengths(3)], [((1,),), ((1, 1), (2,)), ((1, 1, 1), (1, 2), (3,))])
        self.assertEqual([len(all_lengths(places)) for places in range(1, 13)], [1, 2, 3, 5, 7, 11, 15, 22, 30, 42, 56, 77])
        for places in range(1, 13):
            self.assertEqual(list(all_lengths(places)), sorted(set(all_lengths(places))))
            for lengths in all_lengths(places):
                self.assertIs(is_lengths(lengths), True)
                self.assertEqual(sum(lengths), places)

    def test_no_number_of_places(self):
        for value in NO_INTEGERS + [0, -1, 13, LONG]:
            self.assertIs(self.refused(all_lengths, value), value)

    def test_cuts_by_force(self):
        for places in range(1, 8):
            for lengths in all_lengths(places):
                deed, found = deed_with(lengths), {}
                for pair in pairs_of(places):
                    other = ring_lengths(behind(deed, exchange_deed(places, pair)))
                    found[other] = found.get(other, 0) + 1
                self.assertEqual(cuts_of(lengths), found)
                self.assertEqual(list(cuts_of(lengths)), sorted(found))
        for lengths in all_lengths(12):
            self.assertEqual(sum(cuts_of(lengths).values()), 66)

    def test_wrong_lengths(self):
        for value in WRONG + list(STRANGE):
            self.told(InvalidOperation, cuts_of, value)
            self.told(InvalidOperation, count_flat, value)
            for call in (count_all, count_joined, handles_in):
                self.told(InvalidOperation, call, value, 3)
                self.told(InvalidOperation, call, value, None)

    def test_wrong_numbers_of_steps(self):
        for call in (count_all, count_joined, handles_in):
            for value in NO_INTEGERS + [-1, 25, LONG, -LONG]:
                self.assertIs(self.refused(call, (1, 2), value), value)
            for steps in (0, 24):
                call((1, 2), steps)


class CountTest(Case):
    def test_by_force(self):
        for places, most in ((1, 3), (2, 6), (3, 6), (4, 5)):
            for lengths in all_lengths(places):
                for many in range(most + 1):
                    rows = rows_with(deed_with(lengths), many)
                    self.assertEqual(count_all(lengths, many), len(rows))
                    joined = [row for row in rows if len(groups_of(row)) == 1]
                    self.assertEqual(count_joined(lengths, many), len(joined))

    def test_five_places(self):
        for lengths in all_lengths(5):
            for many in range(5):
                rows = rows_with(deed_with(lengths), many)
                self.assertEqual(count_all(lengths, many), len(rows))
                self.assertEqual(count_joined(lengths, many), len([row for row in rows if len(groups_of(row)) == 1]))

    def test_all_tuples_are_counted_once(self):
        for places in range(1, 13):
            for steps in (0, 1, 6, 23, 24):
                whole = sum(count_deeds(lengths) * count_all(lengths, steps) for lengths in all_lengths(places))
                self.assertEqual(whole, comb(places, 2) ** steps)

    def test_cuts_lead_from_one_number_of_steps_to_the_next(self):
        for lengths in all_lengths(6) + all_lengths(9) + all_lengths(12)[::3]:
            for steps in (1, 4, 7, 12, 23, 24):
                before = sum(many * count_all(other, steps - 1) for other, many in cuts_of(lengths).items())
                self.assertEqual(count_all(lengths, steps), before)

    def test_all_tuples_are_parted_into_joined_ones(self):
        for lengths in ((1, 1, 2), (1, 1, 1, 1), (2, 3), (1, 2, 4), (1, 2, 2, 3)):
            for steps in (0, 3, 6):
                whole = 0
                for parting in partings(tuple(range(len(lengths)))):
                    parts = [tuple(lengths[k] for k in part) for part in parting]
                    for shares in product(range(steps + 1), repeat=len(parts)):
                        if sum(shares) == steps:
                            whole += count_parted(tuple(zip(parts, shares)))
                self.assertEqual(whole, count_all(lengths, steps))

    def test_joined_tuples_of_all_lengths_and_steps(self):
        joined, every = cache(count_joined), cache(count_all)
        for places in range(1, 13):
            for lengths in all_lengths(places):
                for steps in range(25) if places < 9 else (11, 22, 23, 24):
                    # Of all tuples each one joins some rings to the first one, and does something with the others.
                    whole = 0
                    for chosen in product((False, True), repeat=len(lengths) - 1):
                        part = lengths[:1] + tuple(length for length, taken in zip(lengths[1:], chosen) if taken)
                        left = tuple(length for length, taken in zip(lengths[1:], chosen) if not taken)
                        for own in range(steps + 1) if left else (steps,):
                            number = joined(part, own)
                            whole += number and comb(steps, own) * number * (every(left, steps - own) if left else 1)
                    self.assertEqual(every(lengths, steps), whole, (lengths, steps))

    def test_formulas_for_few_handles(self):
        for places in range(2, 13):
            for lengths in all_lengths(places):
                for handles in (0, 1):
                    counted = numbers._count_with_handles(lengths, handles)
                    self.assertEqual(count_joined(lengths, places + len(lengths) - 2 + 2 * handles), counted)

    def test_no_steps(self):
        for places in range(1, 13):
            for lengths in all_lengths(places):
                self.assertEqual(count_all(lengths, 0), 1 if lengths == (1,) * places else 0)
                self.assertEqual(count_joined(lengths, 0), 1 if lengths == (1,) else 0)
        self.assertEqual([count_all((1,), 3), count_joined((1,), 24)], [0, 0])

    def test_two_places(self):
        for steps in range(25):
            self.assertEqual(count_all((1, 1), steps), 1 - steps % 2)
            self.assertEqual(count_joined((2,), steps), steps % 2)
            self.assertEqual(count_joined((1, 1), steps), 1 if steps % 2 == 0 and steps > 0 else 0)

    def test_the_most_places_and_steps_are_counted_soon(self):
        begin = perf_counter()
        self.assertGreater(count_joined((1,) * 12, 24), 0)
        self.assertGreater(count_joined((1, 1, 1, 2, 3, 4), 24), 0)
        self.assertGreater(count_parted((((1, 1, 2), 11), ((1, 3, 4), 13))), 0)
        self.assertLess(perf_counter() - begin, 5)


class FlatTest(Case):
    def test_handles(self):
        for places in range(1, 13):
            for lengths in all_lengths(places):
                for steps in range(25):
                    told = [h for h in range(30) if steps == places + len(lengths) - 2 + 2 * h]
                    right = told[0] if told and not (places == 1 and steps) else None
                    self.assertEqual(handles_in(lengths, steps), right)
                    self.assertIs(type(handles_in(lengths, steps)), type(right))

    def test_joined_tuples_exactly_for_handles(self):
        for places in range(1, 9):
            for lengths in all_lengths(places):
                for steps in (0, 1, 4, 7, 9, 14):
                    self.assertEqual(count_joined(lengths, steps) > 0, handles_in(lengths, steps) is not None)

    def test_count_flat(self):
        for places in range(1, 13):
            for lengths in all_lengths(places):
                rings = len(lengths)
                flat = count_flat(lengths)
                self.assertIs(type(flat), int)
                above, below = factorial(places + rings - 2) * places ** rings, places ** 3
                for length in lengths:
                    above, below = above * length ** length, below * factorial(length - 1)
                self.assertEqual(flat * below, above)
                self.assertEqual(flat, count_joined(lengths, places + rings - 2))

    def test_known_numbers(self):
        self.assertEqual([count_flat((places,)) for places in (1, 2, 3, 4, 5, 12)], [1, 1, 3, 16, 125, 12 ** 10])


class PartedTest(Case):
    def test_by_force(self):
        deed = (1, 0, 3, 2, 4)
        for steps in range(6):
            rows = rows_with(deed, steps) if steps < 5 else []
            for parting, parts in ((((0, 1), (2, 3), (4,)), ((2,), (2,), (1,))), (((0, 1, 2, 3), (4,)), ((2, 2), (1,))),
                                   (((0, 1), (2, 3, 4)), ((2,), (1, 2))), (((0, 1, 2, 3, 4),), ((1, 2, 2),))):
                parted = [row for row in rows if groups_of(row) == parting]
                for shares in product(range(steps + 1), repeat=len(parts)):
                    if sum(shares) == steps and rows:
                        told = [row for row in parted
                                if all(len([step for step in row if step[0] in group]) == share
                                       for group, share in zip(parting, shares))]
                        self.assertEqual(count_parted(tuple(zip(parts, shares))), len(told))

    def test_one_part(self):
        for lengths in all_lengths(5):
            for steps in range(12):
                self.assertEqual(count_parted(((lengths, steps),)), count_joined(lengths, steps))

    def test_edges(self):
        self.assertEqual(count_parted(()), 1)
        self.assertEqual(count_parted((((1,), 0),) * 12), 1)
        self.assertEqual(count_parted((((1,), 0), ((1,), 1))), 0)
        self.assertEqual(count_parted((((6,), 12), ((6,), 12))), 0)
        self.assertEqual(count_parted((((6,), 11), ((6,), 13))),
                         comb(24, 11) * count_joined((6,), 11) * count_joined((6,), 13))
        self.assertEqual(count_parted((((1, 1), 24),)), 1)

    def test_what_are_no_parts(self):
        for value in [value for value in STRANGE if value != ()] + WRONG[1:]:
            self.told(InvalidOperation, count_parted, value)
        for value in WRONG:
            self.told(InvalidOperation, count_parted, ((value, 1),))
        for value in NO_INTEGERS + [-1, 25, LONG]:
            self.told(InvalidOperation, count_parted, (((2,), value),))
        for parts in ((((2,), 1), ((2,), 24)), (((6,), 5), ((7,), 6)), (((1,), 0),) * 13, [((2,), 1)], ([(2,), 1],),
                      (((2,), 1, 1),), (((2,),),), ((1, (2,)),), (((2,), 12),) * 2 + (((2,), 1),)):
            self.told(InvalidOperation, count_parted, parts)
        self.assertIs(issubclass(InvalidNumber, IndexError), True)
