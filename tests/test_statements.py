"""The main statements [0.12] to [0.15], [0.17], [0.18], as far as rows, passings and plain rows show them."""

import unittest
from itertools import permutations, product

from renamedown.moves.passings import after_moves, pass_back, pass_on
from renamedown.moves.plain import is_plain, moves_to_plain, plain_row, sign_of
from renamedown.rows.rows import Row
from renamedown.rows.webs import groups_of, handles_of, rings_in, steps_in
from tests.common import LOOP, TRIO, TWINS


def all_rows(places, many, letters):
    """All rows of so many places and steps with these owners."""
    pairs = [(a, b) for b in range(places) for a in range(b)]
    steps = [(*pair, letter) for pair in pairs for letter in letters]
    return [Row(places, chosen) for chosen in product(steps, repeat=many)]


def reached(row, passings=(pass_on, pass_back)):
    """The steps of all rows to which passings lead, found passing by passing."""
    found, fresh = {row.steps}, [row]
    while fresh:
        near = [passing(fresh[0], index) for index in range(len(row) - 1) for passing in passings]
        new = {other.steps: other for other in near if other.steps not in found}
        found |= set(new)
        fresh = fresh[1:] + list(new.values())
    return found


class StatementsTest(unittest.TestCase):
    def test_rows_lead_to_one_another_exactly_if_their_signs_are_equal(self):
        for places, many, letters in ((2, 3, "ab"), (3, 3, "ab"), (3, 4, "a"), (4, 3, "ab"), (4, 4, "a"), (5, 3, "a")):
            rows = all_rows(places, many, letters)
            left = {row.steps: row for row in rows}
            signs = []
            while left:
                row = next(iter(left.values()))
                found = reached(row)
                signs.append(sign_of(row))
                self.assertEqual({sign_of(left.pop(steps)) for steps in found}, {sign_of(row)})
                plain = [steps for steps in found if is_plain(Row(places, steps))]
                self.assertEqual(plain, [plain_row(row).steps])
            self.assertEqual(len(signs), len(set(signs)))

    def test_passings_on_alone_lead_to_all(self):
        for row in (TRIO, TWINS, LOOP):
            self.assertEqual(reached(row, (pass_on,)), reached(row))
            self.assertEqual(reached(row, (pass_back,)), reached(row))
        self.assertEqual([len(reached(row)) for row in (TRIO, TWINS, LOOP)], [6, 6, 486])

    def test_numbers_of_steps_in_groups(self):
        for row in all_rows(4, 4, "a") + [TWINS, LOOP]:
            for group in groups_of(row):
                many = len(steps_in(row, group))
                self.assertEqual(many, len(group) + len(rings_in(row, group)) - 2 + 2 * handles_of(row, group))
                if len(group) == 1:
                    self.assertEqual(many, 0)

    def test_what_is_not_true(self):
        owned = TWINS.owned("acb")
        self.assertEqual((owned.deed, owned.exchanges), (TWINS.deed, TWINS.exchanges))
        self.assertNotIn(owned.steps, reached(TWINS))
        self.assertNotEqual(plain_row(owned), plain_row(TWINS))
        self.assertNotEqual(pass_on(TRIO, 0).exchanges, TRIO.exchanges)
        self.assertNotEqual(after_moves(TRIO, ((0, "on"),) * 3), TRIO)
        self.assertNotIn(TRIO.backwards().steps, reached(TRIO))
        left = Row(4, ((0, 1, "a"), (0, 1, "a")))
        right = Row(4, ((2, 3, "a"), (2, 3, "a")))
        self.assertEqual((left.deed, left.owners, len(groups_of(left))),
                         (right.deed, right.owners, len(groups_of(right))))
        self.assertNotIn(right.steps, reached(left))
        self.assertNotEqual(plain_row(left), plain_row(right))

    def test_same_steps_in_other_orders(self):
        for row in all_rows(4, 3, "ab")[::3] + [LOOP, TWINS]:
            for steps in permutations(row.steps):
                other = Row(row.places, steps)
                self.assertEqual(plain_row(other) == plain_row(row), other.deed == row.deed)

    def test_owners_in_any_order_in_each_group(self):
        found = reached(LOOP)
        for letters in set(permutations("abab")):
            owned = LOOP.owned("".join(letters))
            self.assertIn(owned.steps, found)
            self.assertEqual(after_moves(owned, moves_to_plain(owned)), plain_row(LOOP))

    def test_leading_goes_both_ways(self):
        for row in (TRIO, TWINS):
            for steps in reached(row):
                self.assertEqual(reached(Row(row.places, steps)), reached(row))


if __name__ == "__main__":
    unittest.main()
