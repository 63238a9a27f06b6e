"""Shares of a deed [19.1] to [19.4]."""

from collections import Counter
from itertools import combinations_with_replacement, product
from math import comb
from random import Random
from time import perf_counter

from renamedown.base.deeds import back_of, behind, least_steps, renamed_deed, rest_deed, ring_lengths
from renamedown.base.words import is_integer
from renamedown.count import shares as module
from renamedown.count.least import least_row, least_tuples
from renamedown.count.numbers import all_lengths, is_lengths
from renamedown.count.shares import all_shares, count_kinds, count_shares, is_shares, row_of_shares, share_behind
from renamedown.count.shares import shares_of, shares_passed
from renamedown.errors import InvalidDeed, InvalidOperation, InvalidRow, NoWay, TooMany
from renamedown.rows.rows import Row
from tests.common import LONGEST, LOOP, STRANGE, TRIO, Case
from tests.test_between import ROUND, all_deeds, done_in_turn, drawn_deed, in_rings
from tests.test_plain import NO_DEEDS
from tests.test_webs import NO_ROWS

WHOLE, FIRST, SECOND, REST = (1, 2, 0), (1, 0, 2), (2, 1, 0), (0, 1, 2)
NO_INTEGERS = [value for value in STRANGE if not is_integer(value)]
SIZES = ((1, 1), (1, 3), (2, 1), (2, 2), (2, 5), (3, 1), (3, 2), (3, 3), (4, 1), (4, 2))


def product_of(deeds):
    """The deed of deeds, done one after the other."""
    done = deeds[0]
    for deed in deeds[1:]:
        done = behind(done, deed)
    return done


def shares_by_force(places, many):
    """All shares with so many deeds, by their whole, found among all tuples of deeds."""
    found = {deed: [] for deed in all_deeds(places)}
    for deeds in product(all_deeds(places), repeat=many):
        whole = product_of(deeds)
        if sum(map(least_steps, deeds)) == least_steps(whole):
            found[whole].append(deeds)
    return found


def drawn_shares(random, whole, many):
    """Shares of a whole with so many deeds: those of drawn cuts of drawn exchanges."""
    row = least_row(whole, ("a",) * least_steps(whole))
    cuts = tuple(sorted(random.randrange(len(row) + 1) for _ in range(many - 1)))
    shares = shares_of(row, cuts)
    for _ in range(10 if many > 1 else 0):
        shares = shares_passed(whole, shares, random.randrange(many - 1), random.choice(("on", "back")))
    return shares


class SharesTest(Case):
    def test_constant(self):
        self.assertEqual(module.MAX_SHARES, 5000)

    def test_by_force(self):
        for places, many in SIZES:
            for whole, right in shares_by_force(places, many).items():
                self.assertEqual(all_shares(whole, many), tuple(right))
                self.assertEqual(count_shares(whole, many), len(right))
                self.assertTrue(all(is_shares(whole, deeds) for deeds in right))
        for whole in all_deeds(3):
            right = [deeds for many in (1, 2, 3) for deeds in shares_by_force(3, many)[whole]]
            told = [deeds for many in range(4) for deeds in product(all_deeds(3), repeat=many) if is_shares(whole, deeds)]
            self.assertEqual(told, right)

    def test_five_places_in_two_deeds(self):
        found = shares_by_force(5, 2)
        for whole in (ROUND[5], (1, 0, 3, 4, 2), (4, 2, 1, 0, 3), rest_deed(5)):
            self.assertEqual(all_shares(whole, 2), tuple(found[whole]))
            self.assertEqual(count_shares(whole, 2), len(found[whole]))

    def test_numbers(self):
        begin = perf_counter()
        for places, whole in ROUND.items():
            for many in range(1, 25):
                right = comb(many * places, places) // ((many - 1) * places + 1)
                self.assertEqual(count_shares(whole, many), right)
        for lengths in ((2, 2), (3, 1, 2), (4, 4, 4), (1,) * 12, (6, 6)):
            for many in (1, 2, 7, 24):
                right = 1
                for places in lengths:
                    right *= count_shares(ROUND[places], many)
                self.assertEqual(count_shares(in_rings(lengths), many), right)
        self.assertLess(perf_counter() - begin, 4)

    def test_many_of_1_and_24(self):
        for whole in (WHOLE, ROUND[12], rest_deed(12), (0,)):
            self.assertEqual([all_shares(whole, 1), count_shares(whole, 1)], [((whole,),), 1])
        told = all_shares(WHOLE, 24)
        self.assertEqual((len(told), len(set(told)), list(told)), (852, 852, sorted(told)))
        self.assertTrue(all(is_shares(WHOLE, deeds) for deeds in told[::13]))
        rest = rest_deed(12)
        self.assertEqual(all_shares(rest, 24), ((rest,) * 24,))
        self.assertEqual(len(all_shares((1, 0, 3, 2), 24)), 576)

    def test_5000_and_more(self):
        begin = perf_counter()
        # No number of shares is nearer to 5000 than 4950 and 5184.
        for whole, many in ((in_rings((2, 3)), 15), (ROUND[9], 2), (ROUND[5], 5), (ROUND[4], 12), (in_rings((3, 4)), 4)):
            told = all_shares(whole, many)
            self.assertEqual((len(told), len(set(told)), list(told)), (count_shares(whole, many),) * 2 + (sorted(told),))
            self.assertTrue(all(is_shares(whole, deeds) for deeds in told[::101]))
        for whole, many in ((in_rings((2, 3, 3, 3)), 3), (ROUND[10], 2), (ROUND[12], 24), (ROUND[5], 7), (in_rings((2, 2, 2)), 24)):
            self.assertGreater(count_shares(whole, many), 5000)
            self.assertEqual(self.told(TooMany, all_shares, whole, many).limit, 5000)
        self.assertLess(perf_counter() - begin, 6)

    def test_what_is_shares(self):
        for value in ((WHOLE,), (FIRST, SECOND), (REST, WHOLE), (WHOLE, REST), (REST,) * 11 + (FIRST,) + (REST,) * 11 + (SECOND,),
                      (WHOLE,) + (REST,) * 23, (REST, FIRST, REST, SECOND, REST)):
            self.assertIs(is_shares(WHOLE, value), True)
        for value in ((), (SECOND, FIRST), (FIRST,), (WHOLE,) + (REST,) * 24, [WHOLE], (list(WHOLE),), WHOLE, None, (FIRST, None),
                      (FIRST, SECOND, FIRST, FIRST), ((1, 0), (2, 1, 0)), ((1, 2, 0, 3),), ((True, 2, 0),), ((2, 0, 1), (2, 0, 1)),
                      (FIRST, SECOND, ()), (FIRST, (SECOND,)), ((1, 2, False),)):
            self.assertIs(is_shares(WHOLE, value), False, value)
        self.assertIs(is_shares(REST, (FIRST, FIRST)), False)
        self.assertEqual(self.judged(is_shares, (0,)), [((0,),)])
        self.assertEqual(self.judged(is_shares, (0, 1)), [((0, 1),)])
        self.assertEqual(self.judged(is_shares, WHOLE), [])

    def test_wrong_arguments(self):
        for value in NO_DEEDS:
            for call in (is_shares, count_shares, all_shares, share_behind, row_of_shares):
                self.told(InvalidDeed, call, value, None)
            self.told(InvalidDeed, shares_passed, value, None, None, None)
        for call in (count_shares, all_shares):
            for value in NO_INTEGERS + [0, -1, 25, LONGEST]:
                self.assertIs(self.refused(call, (0,), value), value)
                self.assertIs(self.refused(call, ROUND[12], value), value)


class BehindTest(Case):
    def test_by_force(self):
        for places, most in ((1, 2), (2, 3), (3, 2), (4, 1)):
            begins = {whole: {deeds[:many] for deeds in all_shares(whole, most + 1) for many in range(most + 1)}
                      for whole in all_deeds(places)}
            for whole, right in begins.items():
                for many in range(most + 1):
                    for first in product(all_deeds(places), repeat=many):
                        wrong = [index for index in range(many) if first[:index + 1] not in right]
                        if wrong:
                            self.assertEqual(self.told(NoWay, share_behind, whole, first).reason, wrong[0])
                        else:
                            self.assertIs(is_shares(whole, first + (share_behind(whole, first),)), True)

    def test_no_deed_and_23_deeds(self):
        self.assertEqual([share_behind(whole, ()) for whole in (WHOLE, (0,), ROUND[12])], [WHOLE, (0,), ROUND[12]])
        self.assertEqual(share_behind(WHOLE, (REST,) * 23), WHOLE)
        self.assertEqual(share_behind(WHOLE, (REST,) * 11 + (FIRST,) + (REST,) * 11), SECOND)
        self.told(InvalidOperation, share_behind, WHOLE, (REST,) * 24)
        self.assertEqual(self.told(NoWay, share_behind, WHOLE, (REST,) * 22 + ((2, 0, 1),)).reason, 22)

    def test_least_index(self):
        turned = (2, 0, 1)
        self.assertEqual(self.told(NoWay, share_behind, WHOLE, (turned,)).reason, 0)
        self.assertEqual(self.told(NoWay, share_behind, WHOLE, (turned, REST, turned)).reason, 0)
        self.assertEqual(self.told(NoWay, share_behind, WHOLE, (REST, FIRST, turned, FIRST)).reason, 2)
        self.assertEqual(self.told(NoWay, share_behind, WHOLE, (FIRST, SECOND, FIRST)).reason, 2)
        self.assertEqual(self.told(NoWay, share_behind, WHOLE, (FIRST, FIRST)).reason, 1)

    def test_twelve_places(self):
        random = Random(191)
        for many in (1, 2, 5, 12, 24):
            whole = drawn_deed(random, 12)
            shares = drawn_shares(random, whole, many)
            self.assertIs(is_shares(whole, shares), True)
            self.assertEqual(share_behind(whole, shares[:-1]), shares[-1])

    def test_wrong_tuples(self):
        for value in [value for value in STRANGE if value != ()] + [[FIRST], (list(FIRST),), FIRST, (FIRST, (0, 1)), ((0, 1),),
                                                                   (FIRST, None), ((True, 0, 2),), ((1, 0, 2, 3),)]:
            self.told(InvalidOperation, share_behind, WHOLE, value)
        self.told(InvalidOperation, share_behind, WHOLE, ((2, 0, 1), (0, 1)))


class PassingTest(Case):
    def test_by_force(self):
        for places, many in SIZES:
            for whole in all_deeds(places)[::2]:
                for deeds in all_shares(whole, many):
                    for index in range(many - 1):
                        self.check_passing(whole, deeds, index)

    def check_passing(self, whole, deeds, index):
        u, v = deeds[index:index + 2]
        on, back = (shares_passed(whole, deeds, index, way) for way in ("on", "back"))
        self.assertEqual(on, deeds[:index] + (v, renamed_deed(u, v)) + deeds[index + 2:])
        self.assertEqual(back, deeds[:index] + (renamed_deed(v, back_of(u)), u) + deeds[index + 2:])
        for other, way in ((on, "back"), (back, "on")):
            self.assertIs(is_shares(whole, other), True)
            self.assertEqual(product_of(other), whole)
            self.assertEqual(sorted(map(ring_lengths, other)), sorted(map(ring_lengths, deeds)))
            self.assertEqual(shares_passed(whole, other, index, way), deeds)

    def test_many_places(self):
        random = Random(192)
        for many in (2, 3, 6, 24):
            for whole in (ROUND[12], drawn_deed(random, 12), drawn_deed(random, 7), rest_deed(3)):
                deeds = drawn_shares(random, whole, many)
                for index in {0, many // 2 - 1, many - 2}:
                    self.check_passing(whole, deeds, index)

    def test_single_exchanges_pass_as_steps_do(self):
        self.assertEqual(shares_passed(WHOLE, (FIRST, SECOND), 0, "on"), (SECOND, (0, 2, 1)))
        self.assertEqual(shares_passed(WHOLE, (FIRST, SECOND), 0, "back"), ((0, 2, 1), FIRST))

    def test_wrong_arguments(self):
        shares = (FIRST, SECOND, REST)
        for value in list(STRANGE) + [(SECOND, FIRST), [FIRST, SECOND], (FIRST,), (), ((1, 2, 0, 3),)]:
            self.told(InvalidOperation, shares_passed, WHOLE, value, None, None)
        for value in NO_INTEGERS + [-1, 2, 3, LONGEST]:
            self.assertIs(self.refused(shares_passed, WHOLE, shares, value, None), value)
        for value in STRANGE:
            if value != "on":
                self.told(InvalidOperation, shares_passed, WHOLE, shares, 0, value)
        for value in ("On", "back ", "", None, ("on",), True):
            self.told(InvalidOperation, shares_passed, WHOLE, shares, 1, value)
        self.assertEqual(self.refused(shares_passed, WHOLE, (WHOLE,), 0, "on"), 0)


class RowsTest(Case):
    def test_all_shares_come_about_so(self):
        for whole in all_deeds(3) + all_deeds(4)[::5] + [ROUND[4], (0,)]:
            rows = [Row(len(whole), tuple((*pair, "a") for pair in told)) for told in least_tuples(whole)]
            for many in (1, 2, 3):
                found = {shares_of(row, cuts) for row in rows
                         for cuts in combinations_with_replacement(range(len(row) + 1), many - 1)}
                self.assertEqual(found, set(all_shares(whole, many)))

    def test_shares_are_the_deeds_of_the_parts(self):
        row = Row(5, ((0, 1, "a"), (0, 2, "b"), (3, 4, "c")))
        for cuts in [cuts for many in range(5) for cuts in combinations_with_replacement(range(4), many)]:
            ends = (0,) + cuts + (3,)
            right = tuple(done_in_turn(5, row.exchanges[first:last]) for first, last in zip(ends, ends[1:]))
            self.assertEqual(shares_of(row, cuts), right)

    def test_rows_of_shares(self):
        for whole in all_deeds(3) + all_deeds(4)[::3]:
            for many in (1, 2, 3):
                for deeds in all_shares(whole, many)[::3]:
                    self.check_row(whole, deeds)
        random = Random(193)
        for many in (1, 2, 9, 24):
            for whole in (ROUND[12], drawn_deed(random, 12), rest_deed(12)):
                self.check_row(whole, drawn_shares(random, whole, many))

    def check_row(self, whole, deeds):
        told = row_of_shares(whole, deeds)
        self.assertEqual((type(told), len(told), type(told[0]), type(told[1])), (tuple, 2, Row, tuple))
        self.assertEqual((told[0].deed, len(told[0]), len(told[1])), (whole, least_steps(whole), len(deeds) - 1))
        self.assertEqual(shares_of(*told), deeds)

    def test_edges_of_cuts(self):
        row = Row(3, ((0, 1, "a"), (0, 2, "b")))
        self.assertEqual(shares_of(row, (0,) * 23), (REST,) * 23 + (WHOLE,))
        self.assertEqual(shares_of(row, (2,) * 23), (WHOLE,) + (REST,) * 23)
        self.assertEqual(shares_of(row, (1, 1)), (FIRST, REST, SECOND))
        self.assertEqual(shares_of(row, ()), (WHOLE,))
        for value in ((0,) * 24, (3,), (-1,), (1, 0), (2, 1, 2), [1], (True,), (0, False), None, ("1",), 1, (None,), ((1,),),
                      (LONGEST,), "1", (1, 2, 3)):
            self.told(InvalidOperation, shares_of, row, value)

    def test_wrong_rows(self):
        for value in NO_ROWS:
            self.told(InvalidRow, shares_of, value, None)
        for row in (LOOP, Row(2, ((0, 1, "a"),) * 2), Row(2, ((0, 1, "a"),) * 3), Row(3, TRIO.steps + TRIO.steps[:1])):
            for cuts in ((), (1,), None, (9,)):
                self.told(InvalidOperation, shares_of, row, cuts)
        self.assertEqual(shares_of(Row(3), (0, 0)), (REST,) * 3)

    def test_wrong_shares(self):
        for value in list(STRANGE) + [(), (FIRST,), (SECOND, FIRST), [WHOLE], (WHOLE,) + (REST,) * 24, ((0, 1),)]:
            self.told(InvalidOperation, row_of_shares, WHOLE, value)


class KindsTest(Case):
    def test_by_force(self):
        for places, many in ((1, 3), (2, 3), (3, 2), (3, 3), (4, 2), (4, 3), (5, 2), (6, 2)):
            counted = Counter(tuple(map(ring_lengths, deeds)) for deeds in all_shares(ROUND[places], many))
            for kinds in product(all_lengths(places), repeat=many):
                self.assertEqual(count_kinds(kinds), counted[kinds])

    def test_all_kinds_together(self):
        for places, many in ((7, 2), (7, 4), (12, 2), (9, 3)):
            total = sum(count_kinds(kinds) for kinds in product(all_lengths(places), repeat=many))
            self.assertEqual(total, count_shares(ROUND[places], many))

    def test_one_and_24_tuples(self):
        self.assertEqual([count_kinds(((12,),)), count_kinds(((1,),)), count_kinds(((1, 1),)), count_kinds(((1,),) * 24)],
                         [1, 1, 0, 1])
        self.assertEqual(count_kinds(((1, 2), (1, 2)) + ((1, 1, 1),) * 22), 3)
        self.assertEqual(count_kinds(((1,) * 10 + (2,),) * 11 + ((1,) * 12,) * 13), 12 ** 10)
        self.told(InvalidOperation, count_kinds, ((1,),) * 25)
        self.told(InvalidOperation, count_kinds, ())

    def test_what_are_no_kinds(self):
        for value in [value for value in STRANGE if value != ((0,),)] + [((0,),), ((1, 2), (2,)), ((1, 2), (4,)), [(1, 2)],
                ([1, 2],), ((2, 1),), ((1, 2), (2, 1)), (1, 2), ((1, 2), ()), ((True, 2),), ((13,),), ((1, 2), None), (((3,),),)]:
            if not (isinstance(value, tuple) and value and all(is_lengths(lengths) for lengths in value)
                    and len({sum(lengths) for lengths in value}) == 1):
                self.told(InvalidOperation, count_kinds, value)
        for value in (((0,),), ((1, 2), (2,)), ((1, 2), (4,)), ((2, 1),), ((True, 2),)):
            self.told(InvalidOperation, count_kinds, value)
