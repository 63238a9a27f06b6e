"""Passings and moves [0.9], [0.11], [0.14], [0.18], [5.1], [5.2]."""

import unittest

from renamedown.base.words import is_integer, renamed_exchange
from renamedown.errors import InvalidMoves, InvalidOperation, InvalidRow, TooMany
from renamedown.moves import passings
from renamedown.moves.passings import after_moves, is_moves, led, only_on, pass_back, pass_on, period_at
from renamedown.moves.passings import rows_along, turned_over, undone
from renamedown.rows.rows import Row
from renamedown.rows.webs import groups_of, owner_counts
from tests.common import FULL, LONG, LONGEST, LOOP, STRANGE, TRIO, TWINS, Case, all_but
from tests.test_webs import NO_ROWS, rows_by_force

SHORT = (Row(1), Row(12), TRIO.part(0, 1))
NO_INTEGERS = [value for value in STRANGE if not is_integer(value)]
WRONG_MOVES = [((0, "On"),), ((0, ""),), ((0, "on "),), ((0, None),), ((0, True),), ((0, ("on",)),), ((0, ["on"]),),
               ((True, "on"),), ((False, "on"),), ((-1, "on"),), (("0", "on"),), ((None, "on"),), ((LONG, "on"),),
               ((0, "on", "on"),), ((0,),), (0, "on"), ((),), [(0, "on")], ([0, "on"],), "on", {(0, "on"): 1},
               ((0, "on"), None), (TRIO,), ((0, TRIO),), ((TRIO, "on"),)]


def owned_by_force(places, most):
    """All rows of so many places with at most so many steps, with some different owners."""
    for row in rows_by_force(places, most):
        yield row.owned("abcac"[:len(row)])


class OneTest(Case):
    def test_passing_puts_the_later_step_first(self):
        for row in owned_by_force(4, 3):
            for index in range(len(row) - 1):
                s, t = row[index], row[index + 1]
                on = (t, renamed_exchange(s[:2], t[:2]) + (s[2],))
                back = (renamed_exchange(t[:2], s[:2]) + (t[2],), s)
                rest, behind = row.steps[:index], row.steps[index + 2:]
                self.assertEqual(pass_on(row, index), Row(4, rest + on + behind))
                self.assertEqual(pass_back(row, index), Row(4, rest + back + behind))

    def test_deed_and_groups_and_owners_stay(self):
        for row in list(owned_by_force(3, 4)) + [TWINS, LOOP, FULL]:
            for index in range(len(row) - 1):
                for other in (pass_on(row, index), pass_back(row, index)):
                    self.assertEqual((other.places, other.deed), (row.places, row.deed))
                    self.assertEqual(groups_of(other), groups_of(row))
                    for group in groups_of(row):
                        self.assertEqual(owner_counts(other, group), owner_counts(row, group))

    def test_on_and_back_change_nothing(self):
        for row in owned_by_force(3, 3):
            for index in range(len(row) - 1):
                self.assertEqual(pass_back(pass_on(row, index), index), row)
                self.assertEqual(pass_on(pass_back(row, index), index), row)

    def test_passing_on_six_times_changes_nothing_by_force(self):
        for row in owned_by_force(4, 5):
            for index in range(len(row) - 1):
                self.assertEqual(after_moves(row, ((index, "on"),) * 6), row)
                five = after_moves(row, ((index, "on"),) * 5)
                self.assertEqual(five, pass_back(row, index))

    def test_steps_of_different_groups_are_not_renamed(self):
        self.assertEqual(pass_on(TWINS, 0).steps, ((3, 4, "b"), (0, 1, "a"), (0, 1, "c")))
        self.assertEqual(pass_back(TWINS, 1).steps, ((0, 1, "a"), (0, 1, "c"), (3, 4, "b")))

    def test_wrong_indices(self):
        for call in (pass_on, pass_back, period_at):
            for value in NO_INTEGERS + [-1, 3, 4, LONGEST]:
                self.assertIs(self.refused(call, LOOP, value), value)
            for row in SHORT:
                self.assertEqual(self.refused(call, row, 0), 0)
            self.assertEqual(self.refused(call, FULL, 23), 23)

    def test_what_is_no_row(self):
        for value in NO_ROWS:
            for call in (pass_on, pass_back, period_at, is_moves, after_moves, rows_along):
                for other in (0, (), None, -1):
                    self.told(InvalidRow, call, value, other)
            self.told(InvalidRow, led, value, -1, -1, renamed=None)
            self.told(InvalidRow, turned_over, value, -1, many=None)


class MovesTest(Case):
    def test_constant(self):
        self.assertEqual(passings.MAX_MOVES, 200000)

    def test_moves_of_a_row(self):
        for value in ((), ((0, "on"),), ((2, "back"), (0, "on"), (1, "back"))):
            self.assertIs(is_moves(LOOP, value), True)
        for value in WRONG_MOVES + [((3, "on"),), ((0, "on"), (3, "back")), ((2, "on"), (-1, "on"))]:
            self.assertIs(is_moves(LOOP, value), False, value)
        self.assertIs(is_moves(FULL, ((22, "on"),)), True)
        self.assertIs(is_moves(FULL, ((23, "on"),)), False)

    def test_every_value_is_judged(self):
        self.assertEqual(self.judged(is_moves, LOOP), [(), ((0, "on"),)])
        for row in SHORT:
            self.assertEqual(self.judged(is_moves, row), [()])

    def test_at_most_200000_moves(self):
        moves = ((0, "on"),) * 200000
        self.assertIs(is_moves(TRIO, moves), True)
        self.assertIs(is_moves(TRIO, moves + ((0, "on"),)), False)
        self.assertEqual(after_moves(TRIO, moves), turned_over(TRIO, 0, many=200000))
        self.told(InvalidMoves, after_moves, TRIO, moves + ((0, "on"),))
        self.told(InvalidMoves, rows_along, TRIO, moves + ((0, "on"),))
        self.assertEqual(undone(moves), ((0, "back"),) * 200000)
        self.told(InvalidMoves, undone, moves + ((0, "on"),))
        self.assertEqual(only_on(moves), moves)
        self.told(InvalidMoves, only_on, moves + ((0, "on"),))

    def test_after_moves_does_one_behind_the_other(self):
        moves = ((0, "on"), (2, "back"), (1, "on"), (1, "on"), (0, "back"), (2, "on"))
        row, rows = LOOP, [LOOP]
        for index, way in moves:
            row = pass_on(row, index) if way == "on" else pass_back(row, index)
            rows.append(row)
        self.assertEqual(after_moves(LOOP, moves), row)
        self.assertEqual(rows_along(LOOP, moves), tuple(rows))
        for many in range(7):
            self.assertEqual(after_moves(LOOP, moves[:many]), rows[many])
        for short in SHORT:
            self.assertEqual(after_moves(short, ()), short)
            self.assertEqual(rows_along(short, ()), (short,))

    def test_wrong_moves(self):
        for value in all_but((), ((0, "on"),)) + WRONG_MOVES + [((3, "on"),), ((0, "on"), (3, "on"))]:
            self.told(InvalidMoves, after_moves, LOOP, value)
            self.told(InvalidMoves, rows_along, LOOP, value)
        self.told(InvalidMoves, after_moves, TRIO.part(0, 1), ((0, "on"),))

    def test_at_most_2000_moves_along(self):
        moves = ((0, "on"), (1, "back")) * 1000
        rows = rows_along(LOOP, moves)
        self.assertEqual(len(rows), 2001)
        self.assertEqual(rows[-1], after_moves(LOOP, moves))
        self.assertEqual(self.told(TooMany, rows_along, LOOP, moves + ((0, "on"),)).limit, 2000)
        self.told(InvalidMoves, rows_along, LOOP, moves + ((3, "on"),))
        self.told(InvalidMoves, rows_along, LOOP, moves + ((0, "no"),))

    def test_undone_moves_lead_back(self):
        moves = ((0, "on"), (2, "back"), (1, "on"), (1, "on"), (0, "back"))
        self.assertEqual(undone(moves), ((0, "on"), (1, "back"), (1, "back"), (2, "on"), (0, "back")))
        self.assertEqual(after_moves(after_moves(LOOP, moves), undone(moves)), LOOP)
        self.assertEqual(undone(()), ())

    def test_only_on(self):
        moves = ((0, "on"), (2, "back"), (1, "on"), (0, "back"))
        told = only_on(moves)
        self.assertEqual(told, ((0, "on"),) + ((2, "on"),) * 5 + ((1, "on"),) + ((0, "on"),) * 5)
        self.assertEqual(after_moves(LOOP, told), after_moves(LOOP, moves))
        self.assertEqual(only_on(()), ())

    def test_only_on_has_at_most_200000_moves(self):
        self.assertEqual(len(only_on(((0, "back"),) * 40000)), 200000)
        self.assertEqual(self.told(TooMany, only_on, ((0, "back"),) * 40001).limit, 200000)
        self.assertEqual(self.told(TooMany, only_on, ((0, "back"),) * 40000 + ((0, "on"),)).limit, 200000)
        self.told(InvalidMoves, only_on, ((0, "back"),) * 40001 + ((0, "no"),))

    def test_moves_of_no_row_have_indices_up_to_22(self):
        self.assertEqual(undone(((22, "on"),)), ((22, "back"),))
        self.assertEqual(only_on(((22, "back"),)), ((22, "on"),) * 5)
        for call in (undone, only_on):
            for value in all_but((), ((0, "on"),)) + WRONG_MOVES + [((23, "on"),), ((0, "on"), (23, "back"))]:
                self.told(InvalidMoves, call, value)


class LeadingTest(Case):
    def test_led_steps(self):
        for row in (LOOP, TWINS, FULL.part(0, 7), TRIO):
            for source in range(len(row)):
                for target in range(len(row)):
                    self.check_led(row, source, target, False)
                    self.check_led(row, source, target, True)

    def check_led(self, row, source, target, renamed):
        behind, moves = led(row, source, target, renamed=renamed)
        self.assertEqual(len(moves), abs(source - target))
        self.assertEqual(rows_along(row, moves)[-1], behind)
        step, rest = row[source], list(row.steps[:source] + row.steps[source + 1:])
        between = range(source, target) if source < target else range(source - 1, target - 1, -1)
        for index in between:
            if renamed:
                step = renamed_exchange(step[:2], rest[index][:2]) + (step[2],)
            else:
                rest[index] = renamed_exchange(rest[index][:2], step[:2]) + (rest[index][2],)
        rest.insert(target, step)
        self.assertEqual(list(behind.steps), rest)
        if not renamed:
            self.assertEqual(led(row, source, target), (behind, moves))

    def test_wrong_indices(self):
        for value in NO_INTEGERS + [-1, 4, LONGEST]:
            self.assertIs(self.refused(led, LOOP, value, -1, renamed=None), value)
            self.assertIs(self.refused(led, LOOP, value, 0), value)
            self.assertIs(self.refused(led, LOOP, 0, value, renamed=None), value)
        self.assertEqual(self.refused(led, Row(3), 0, 0), 0)
        self.assertEqual(led(LOOP, 3, 3), (LOOP, ()))

    def test_renamed_is_a_boolean(self):
        for value in all_but(True, False):
            self.told(InvalidOperation, led, LOOP, 0, 0, renamed=value)


class TurningTest(Case):
    def test_turning_over(self):
        for row in (TRIO, LOOP, TWINS):
            for index in range(len(row) - 1):
                on, back = row, row
                for many in range(15):
                    self.assertEqual(turned_over(row, index, many=many), on)
                    self.assertEqual(turned_over(row, index, many=-many), back)
                    on, back = pass_on(on, index), pass_back(back, index)

    def test_turning_over_a_number_of_many_digits(self):
        for many in (LONGEST, -LONGEST, 10 ** 199 + 1, 5 - 10 ** 199):
            self.assertEqual(turned_over(TRIO, 0, many=many), turned_over(TRIO, 0, many=many % 6))

    def test_wrong_numbers(self):
        for value in NO_INTEGERS:
            self.assertIs(self.refused(turned_over, TRIO, 0, many=value), value)
        for value in NO_INTEGERS + [-1, 1]:
            self.assertIs(self.refused(turned_over, TRIO, value, many=1), value)
            self.assertIs(self.refused(turned_over, TRIO, value, many=None), value)

    def test_periods(self):
        for exchanges, owners, period in ((((0, 1), (0, 1)), "aa", 1), (((0, 1), (0, 1)), "ab", 2),
                                          (((0, 1), (2, 3)), "aa", 2), (((0, 1), (2, 3)), "ab", 2),
                                          (((0, 1), (1, 2)), "aa", 3), (((0, 1), (1, 2)), "ab", 6)):
            row = Row(4, tuple((*pair, owner) for pair, owner in zip(exchanges, owners)))
            self.assertEqual(period_at(row, 0), period)

    def test_periods_by_force(self):
        for row in owned_by_force(4, 3):
            for index in range(len(row) - 1):
                many, other = 1, pass_on(row, index)
                while other != row:
                    many, other = many + 1, pass_on(other, index)
                self.assertEqual(period_at(row, index), many)


if __name__ == "__main__":
    unittest.main()
