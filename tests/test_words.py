"""Integers, owners, exchanges and steps [0.1], [0.5], [0.8], [0.9]."""

import unittest

from renamedown.base import words
from renamedown.base.words import is_count, is_exchange, is_integer, is_number_of_places, is_owner
from renamedown.base.words import is_step, renamed_exchange
from renamedown.errors import InvalidOperation
from tests.common import LONG, LONGEST, STRANGE, TRIO, Case, all_but

PAIRS = [(a, b) for b in range(12) for a in range(b)]


class WordsTest(Case):
    def test_constants(self):
        self.assertEqual((words.MAX_PLACES, words.MAX_STEPS, words.MAX_FIGURES), (12, 24, 200))

    def test_integers_have_at_most_200_digits(self):
        for value in (0, 1, -1, LONGEST, -LONGEST):
            self.assertIs(is_integer(value), True)
        for value in (LONG, -LONG, 10 ** 249, True, False, None, "1", (1,), [1], {1: 1}, TRIO):
            self.assertIs(is_integer(value), False)

    def test_counts_are_at_least_0(self):
        for value in (0, 1, 24, LONGEST):
            self.assertIs(is_count(value), True)
        for value in (-1, -LONGEST, LONG, True, False, None, "0", (), TRIO):
            self.assertIs(is_count(value), False)

    def test_owners_are_one_letter(self):
        for value in "abcdefghijklmnopqrstuvwxyz":
            self.assertIs(is_owner(value), True)
        for value in ("", "A", "Z", "`", "{", "aa", "ab", " ", "1", "\n", "\u00e4", ("a",), ["a"], None, 97):
            self.assertIs(is_owner(value), False)

    def test_numbers_of_places_are_from_1_to_12(self):
        self.assertEqual([value for value in range(-3, 20) if is_number_of_places(value)], list(range(1, 13)))
        for value in (True, False, None, "3", (3,), LONG, TRIO):
            self.assertIs(is_number_of_places(value), False)

    def test_exchanges_are_ascending_pairs_of_places(self):
        for places in range(1, 13):
            found = [(a, b) for a in range(-1, 14) for b in range(-1, 14) if is_exchange(places, (a, b))]
            self.assertEqual(sorted(found), sorted([pair for pair in PAIRS if pair[1] < places]))
        for value in ((False, 1), (0, True), (0,), (0, 1, 2), [0, 1], {0: 1}, "01", (0, LONG), (None, 1), ((0,), 1)):
            self.assertIs(is_exchange(12, value), False)

    def test_steps_are_exchanges_with_owners(self):
        self.assertIs(is_step(2, (0, 1, "z")), True)
        self.assertIs(is_step(12, (10, 11, "a")), True)
        for value in ((0, 2, "a"), (1, 0, "a"), (0, 0, "a"), (0, 1), (0, 1, "a", "b"), (0, 1, "A"), (0, 1, 1),
                      (0, 1, ("a",)), (False, 1, "a"), (0, True, "a"), [0, 1, "a"], ((0, 1), "a"), (0, 1, None)):
            self.assertIs(is_step(2, value), False)

    def test_every_value_is_judged(self):
        self.assertEqual(self.judged(is_integer), [0, 1, 2, -1, 13, 25, LONGEST, -LONGEST])
        self.assertEqual(self.judged(is_count), [0, 1, 2, 13, 25, LONGEST])
        self.assertEqual(self.judged(is_owner), ["a"])
        self.assertEqual(self.judged(is_number_of_places), [1, 2])
        self.assertEqual(self.judged(is_exchange, 2), [(0, 1)])
        self.assertEqual(self.judged(is_step, 12), [(0, 1, "a")])
        self.assertEqual(self.judged(is_exchange, 1) + self.judged(is_step, 1), [])

    def test_places_are_refused_whatever_the_value(self):
        for places in [value for value in STRANGE if not is_number_of_places(value)] + [0, 13, -12]:
            for call in (is_exchange, is_step):
                for value in ((0, 1), (0, 1, "a"), None, [[]]):
                    self.assertIs(self.refused(call, places, value), places)

    def test_renaming_exchanges_two_places_in_an_exchange(self):
        for one in PAIRS:
            for c, d in PAIRS:
                names = {c: d, d: c}
                renamed = tuple(sorted(names.get(place, place) for place in one))
                self.assertEqual(renamed_exchange(one, (c, d)), renamed)

    def test_renaming_refuses_what_is_no_exchange(self):
        for value in all_but((0, 1)) + [(0, 12), (11, 12), (3, 2), (0, 1, "a")]:
            self.told(InvalidOperation, renamed_exchange, value, (0, 1))
            self.told(InvalidOperation, renamed_exchange, (0, 1), value)
        self.assertEqual(renamed_exchange((0, 11), (10, 11)), (0, 10))


if __name__ == "__main__":
    unittest.main()
