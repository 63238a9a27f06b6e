"""Codes of the least tuples for the round deed [13.1], [13.2]."""

from itertools import product
from random import Random

from renamedown.base.words import is_integer
from renamedown.count import codes
from renamedown.count.codes import code_at, code_of, count_behind, count_codes, each_code, exchanges_of, index_of
from renamedown.count.codes import is_code, turned_code
from renamedown.count.least import is_least, least_tuples
from renamedown.errors import InvalidNumber, InvalidOperation, TooMany
from tests.common import LONG, STRANGE, TRIO, Case, all_but

NO_INTEGERS = [value for value in STRANGE if not is_integer(value)]
NO_PLACES = NO_INTEGERS + [0, -1, 13, LONG, -LONG]
WRONG = [(0,), (0, 0, 0), [0, 0], (0, 2), (1, 1), (True, 0), (0, False), ("0", 0), (0, None), (-1, 0), (0, LONG), "00", None,
         ((0,), 0), {0: 0}, TRIO, 0]


def round_deed(places):
    """The deed that takes each thing on by one place."""
    return tuple((place + 1) % places for place in range(places))


def codes_by_force(places):
    """All codes, ascending, as the document tells them."""
    return [code for code in product(range(places), repeat=places - 1)
            if all(low <= index for index, low in enumerate(sorted(code)))]


class CodeTest(Case):
    def test_constant(self):
        self.assertEqual(codes.MAX_CODES, 7)

    def test_by_force(self):
        for places in range(1, 7):
            right = codes_by_force(places)
            self.assertEqual(count_codes(places), len(right))
            self.assertEqual(list(each_code(places)), right)
            for code in product(range(-1, places + 1), repeat=places - 1) if places < 6 else right:
                self.assertIs(is_code(places, code), code in right)
            step = 1 if places < 6 else 13
            for index in range(0, len(right), step):
                self.assertEqual(code_at(places, index), right[index])
                self.assertEqual(index_of(places, right[index]), index)

    def test_codes_are_the_lesser_places_of_least_tuples(self):
        for places in range(1, 7):
            told = {}
            for exchanges in least_tuples(round_deed(places)):
                code = code_of(places, exchanges)
                self.assertEqual(code, tuple(low for low, _ in exchanges))
                self.assertIs(is_code(places, code), True)
                self.assertEqual(exchanges_of(places, code), exchanges)
                told[code] = exchanges
            self.assertEqual(sorted(told), codes_by_force(places))

    def test_twelve_places(self):
        random = Random(131)
        indices = [0, 1, 12 ** 10 - 1, 12 ** 10 - 2] + [random.randrange(12 ** 10) for _ in range(12)]
        for index in indices:
            code = code_at(12, index)
            self.assertIs(is_code(12, code), True)
            self.assertEqual(index_of(12, code), index)
            exchanges = exchanges_of(12, code)
            self.assertIs(is_least(round_deed(12), exchanges), True)
            self.assertEqual(code_of(12, exchanges), code)
            self.assertEqual(turned_code(12, turned_code(12, code)), code)
        self.assertEqual(code_at(12, 0), (0,) * 11)
        self.assertEqual(code_at(12, 12 ** 10 - 1), tuple(range(10, -1, -1)))

    def test_numbers(self):
        self.assertEqual([count_codes(places) for places in (1, 2, 3, 4, 7, 12)], [1, 1, 3, 16, 7 ** 5, 12 ** 10])

    def test_one_place(self):
        self.assertEqual([is_code(1, ()), code_of(1, ()), exchanges_of(1, ()), code_at(1, 0)], [True, (), (), ()])
        self.assertEqual([index_of(1, ()), count_behind(1, ()), list(each_code(1)), turned_code(1, ())], [0, 1, [()], ()])

    def test_no_such_index(self):
        for places, many in ((1, 1), (2, 1), (4, 16), (12, 12 ** 10)):
            for value in NO_INTEGERS + [-1, many, many + 1, LONG]:
                self.assertIs(self.refused(code_at, places, value), value)
            self.assertEqual(index_of(places, code_at(places, many - 1)), many - 1)

    def test_each_code_of_at_most_seven_places(self):
        told = list(each_code(7))
        self.assertEqual((len(told), told[0], told[-1]), (7 ** 5, (0,) * 6, (5, 4, 3, 2, 1, 0)))
        self.assertTrue(all(one < other for one, other in zip(told, told[1:])))
        for places in (8, 12):
            later = each_code(places)
            self.assertEqual(self.told(TooMany, next, later).limit, 7)

    def test_a_generator_raises_when_it_is_asked(self):
        for value in NO_PLACES:
            later = each_code(value)
            self.assertIs(self.told(InvalidNumber, next, later).value, value)

    def test_numbers_behind_a_begin(self):
        for places in range(1, 6):
            right = codes_by_force(places)
            for many in range(places):
                for begin in product(range(places), repeat=many):
                    number = len([code for code in right if code[:many] == begin])
                    self.assertEqual(count_behind(places, begin), number)
        for begin in ((), (3,), (0, 0, 0), (10,), (10, 9), (11,)):
            longer = sum(count_behind(12, begin + (low,)) for low in range(12))
            self.assertEqual(count_behind(12, begin), longer)
        self.assertEqual(count_behind(12, ()), 12 ** 10)

    def test_what_is_no_begin(self):
        for value in STRANGE:
            if value not in ((), (0,), (0, 1), (1, 0), (0, 0)):
                self.told(InvalidOperation, count_behind, 3, value)
        for value in ((0, 0, 0), (3,), (0, 3), (-1,), (True,), [0], "0", (0, LONG), (None,)):
            self.told(InvalidOperation, count_behind, 3, value)
        self.assertEqual([count_behind(3, (2,)), count_behind(3, (1, 1)), count_behind(3, (1, 0))], [0, 0, 1])

    def test_turned_codes(self):
        for places in range(1, 7):
            for code in codes_by_force(places)[::1 if places < 6 else 7]:
                exchanges = exchanges_of(places, code)
                turned = tuple((places - 1 - high, places - 1 - low) for low, high in reversed(exchanges))
                self.assertIs(is_least(round_deed(places), turned), True)
                self.assertEqual(exchanges_of(places, turned_code(places, code)), turned)
                self.assertEqual(turned_code(places, turned_code(places, code)), code)

    def test_every_value_is_judged(self):
        self.assertEqual(self.judged(is_code, 3), [(0, 1), (1, 0), (0, 0)])
        self.assertEqual(self.judged(is_code, 1), [()])
        self.assertEqual(self.judged(is_code, 2), [(0,)])

    def test_what_is_no_code(self):
        for value in WRONG:
            self.assertIs(is_code(3, value), False, value)
            for call in (exchanges_of, index_of, turned_code):
                self.told(InvalidOperation, call, 3, value)
        for value in all_but((0, 1), (1, 0), (0, 0)):
            for call in (exchanges_of, index_of, turned_code):
                self.told(InvalidOperation, call, 3, value)

    def test_what_is_not_least(self):
        for value in list(STRANGE) + [((0, 2), (0, 1)), [(0, 1), (0, 2)], ((0, 1), (0, 2), (0, 2)), ((False, 1), (0, 2))]:
            self.told(InvalidOperation, code_of, 3, value)

    def test_what_is_no_number_of_places(self):
        for value in NO_PLACES:
            for call in (is_code, code_of, exchanges_of, code_at, index_of, count_behind, turned_code):
                self.assertIs(self.refused(call, value, None), value)
            self.assertIs(self.refused(count_codes, value), value)
