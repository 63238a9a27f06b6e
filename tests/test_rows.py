"""Rows [0.8], [0.10], [0.18], [3.1]."""

import unittest

from renamedown.base.words import is_exchange, is_integer, is_number_of_places, is_step
from renamedown.errors import InvalidOperation, InvalidRow, ParseError, TooMany
from renamedown.rows import rows
from renamedown.rows.rows import Row
from tests.common import FULL, LONG, LONGEST, LOOP, STRANGE, TRIO, TWINS, Case, all_but

NO_PLACES = [value for value in STRANGE if not is_number_of_places(value)] + [0, 13, -3]
NO_INTEGERS = [value for value in STRANGE if not is_integer(value)] + [LONG, -LONG]
STEP = (0, 1, "a")
EMPTY = Row(12)
ALL = (TRIO, TWINS, LOOP, FULL, EMPTY, Row(1))


def where_things_lie(row):
    """For each number of steps done, the list of the things at the places."""
    lie = [list(range(row.places))]
    for a, b, _ in row.steps:
        things = list(lie[-1])
        things[a], things[b] = things[b], things[a]
        lie.append(things)
    return lie


class MakingTest(Case):
    def test_constants(self):
        self.assertEqual((rows.MAX_PLACES, rows.MAX_STEPS), (12, 24))

    def test_places_and_steps(self):
        self.assertEqual((TRIO.places, TRIO.steps), (3, ((0, 1, "a"), (1, 2, "b"))))
        self.assertEqual((Row(7).places, Row(7).steps), (7, ()))
        for places in range(1, 13):
            self.assertEqual(Row(places).places, places)

    def test_places_are_refused_first(self):
        for value in NO_PLACES:
            for steps in ((), (STEP,), None, [STEP], (1, 2)):
                self.assertIs(self.refused(Row, value, steps), value)
            self.assertIs(self.refused(Row, value), value)

    def test_steps_are_refused(self):
        for value in all_but((), (STEP,)):
            self.told(InvalidRow, Row, 2, value)
        for value in ((STEP,), ((0, 2, "a"),)):
            self.told(InvalidRow, Row, 1, value)
        for wrong in ((1, 0, "a"), (0, 2, "a"), (0, 0, "a"), (0, 1, "A"), (0, True, "a"), (False, 1, "a"), [0, 1, "a"],
                      (0, 1), (0, 1, "ab"), (0, 1, ""), (0, 1, None), (0, LONG, "a"), None, TRIO):
            self.told(InvalidRow, Row, 2, (STEP, wrong))

    def test_at_most_24_steps(self):
        self.assertEqual(len(Row(2, (STEP,) * 24)), 24)
        self.told(InvalidRow, Row, 2, (STEP,) * 25)

    def test_rows_never_change(self):
        row = Row(3, ((0, 1, "a"), (1, 2, "b")))
        for name in ("places", "steps", "lines", "exchanges", "owners", "deed"):
            with self.assertRaises(AttributeError):
                setattr(row, name, 1)
        row.owners["z"] = 9
        row.with_step(0, STEP)
        row.without_step(0)
        self.assertEqual(row.owners, {"a": 1, "b": 1})
        self.assertEqual(row, TRIO)


class LinesTest(Case):
    def test_lines(self):
        self.assertEqual(Row(12, ((10, 11, "z"), (0, 10, "a"))).lines, ("10 11 z", "0 10 a"))
        self.assertEqual(EMPTY.lines, ())
        for row in ALL:
            self.assertEqual(Row.from_lines(row.places, row.lines), row)

    def test_every_line_of_a_step_is_read(self):
        for a in range(12):
            for b in range(a + 1, 12):
                self.assertEqual(Row.from_lines(12, (f"{a} {b} k",)).steps, ((a, b, "k"),))

    def test_places_are_refused_first(self):
        for value in NO_PLACES:
            for lines in ((), ("0 1 a",), None, ("x",)):
                self.assertIs(self.refused(Row.from_lines, value, lines), value)

    def test_what_is_no_tuple(self):
        for value in [value for value in STRANGE if not isinstance(value, tuple)] + ["0 1 a", ["0 1 a"]]:
            self.assertIsNone(self.told(ParseError, Row.from_lines, 3, value).line)

    def test_the_first_wrong_line_is_told(self):
        wrong = ["", "0 1", "0 1 A", "0 1 ab", "1 0 a", "0 0 a", "0 3 a", "0  1 a", " 0 1 a", "0 1 a ", "00 1 a", "0 01 a",
                 "0 1 a\n", "0\n1 a", "0,1,a", "0 1 a b", "-0 1 a", "+0 1 a", "0 12 a", "0 1 1", "0 \u0661 a", "0 \u00b9 a",
                 "a 0 1", "0 1  a", "0\t1 a", "0 1 \u00e4", "0.0 1 a", "None 1 a"]
        for value in wrong + all_but("0 1 a"):
            self.assertEqual(self.told(ParseError, Row.from_lines, 3, (value,)).line, 0)
            self.assertEqual(self.told(ParseError, Row.from_lines, 3, ("0 1 a", "1 2 z", value, None)).line, 2)
        self.assertEqual(self.told(ParseError, Row.from_lines, 2, ("0 2 a",)).line, 0)

    def test_more_than_24_lines(self):
        self.assertEqual(len(Row.from_lines(2, ("0 1 a",) * 24)), 24)
        self.told(InvalidRow, Row.from_lines, 2, ("0 1 a",) * 25)
        self.assertEqual(self.told(ParseError, Row.from_lines, 2, ("0 1 a",) * 30 + ("0 1",)).line, 30)


class AskingTest(Case):
    def test_exchanges(self):
        self.assertEqual(TWINS.exchanges, ((0, 1), (3, 4), (0, 1)))
        self.assertEqual(EMPTY.exchanges, ())

    def test_owners(self):
        row = Row(2, tuple((0, 1, owner) for owner in "zazbz"))
        self.assertEqual(list(row.owners.items()), [("a", 1), ("b", 1), ("z", 3)])
        self.assertEqual(EMPTY.owners, {})

    def test_deed_takes_each_thing_to_where_it_lies_at_last(self):
        for row in ALL:
            things = where_things_lie(row)[-1]
            self.assertEqual([row.deed[thing] for thing in things], list(range(row.places)))
        self.assertEqual(EMPTY.deed, tuple(range(12)))
        self.assertEqual(TRIO.deed, (2, 0, 1))

    def test_paths_and_things(self):
        for row in ALL:
            lie = where_things_lie(row)
            for place in range(row.places):
                self.assertEqual(row.path(place), tuple(things.index(place) for things in lie))
                for index, things in enumerate(lie):
                    self.assertEqual(row.thing_at(place, index), things[place])

    def test_paths_refuse_what_is_no_place(self):
        for value in NO_INTEGERS + [-1, 3, 4, 12]:
            self.assertIs(self.refused(TRIO.path, value), value)
            self.assertIs(self.refused(TRIO.thing_at, value, 0), value)
            self.assertIs(self.refused(TRIO.thing_at, value, None), value)

    def test_things_refuse_what_is_no_number_of_steps(self):
        for value in NO_INTEGERS + [-1, 3, LONGEST]:
            self.assertIs(self.refused(TRIO.thing_at, 0, value), value)
        self.assertEqual(self.refused(EMPTY.thing_at, 0, 1), 1)

    def test_items(self):
        self.assertEqual([LOOP[index] for index in range(4)], list(LOOP.steps))
        for value in NO_INTEGERS + [-1, -4, 4, slice(0, 2)]:
            self.assertIs(self.refused(LOOP.__getitem__, value), value)
        self.assertEqual(self.refused(EMPTY.__getitem__, 0), 0)

    def test_members(self):
        for row in ALL:
            for step in row.steps:
                self.assertIs(step in row, True)
            for value in STRANGE:
                self.assertIs(value in row, repr(value) in [repr(step) for step in row.steps], value)
        for value in ((False, 1, "a"), (0, True, "a"), (0, 1), (0, 1, "b"), (0.0, 1, "a"), [0, 1, "a"]):
            self.assertIs(value in TRIO, False, value)

    def test_length_and_iteration(self):
        for row in ALL:
            self.assertEqual(len(row), len(row.steps))
            self.assertEqual([step for step in row], list(row.steps))
            self.assertEqual(tuple(row), row.steps)

    def test_equality(self):
        self.assertTrue(Row(3, TRIO.steps) == TRIO)
        self.assertFalse(Row(3, TRIO.steps) != TRIO)
        for other in all_but(TRIO) + [Row(4, TRIO.steps), TRIO.backwards(), TRIO.owned("ba"), TRIO.steps]:
            self.assertIs(TRIO == other, False)
            self.assertIs(other == TRIO, False)
            self.assertIs(TRIO != other, True)

    def test_text(self):
        self.assertEqual([str(TRIO), str(Row(1)), str(FULL)],
                         ["row of 3 places, 2 steps", "row of 1 places, 0 steps", "row of 12 places, 24 steps"])


class StepsTest(Case):
    def test_one_step_more(self):
        for row in (TRIO, TWINS, LOOP, EMPTY):
            for index in range(len(row) + 1):
                steps = list(row.steps)
                steps.insert(index, (0, 2, "q"))
                self.assertEqual(row.with_step(index, (0, 2, "q")), Row(row.places, tuple(steps)))

    def test_one_step_less(self):
        for row in (TRIO, TWINS, LOOP, FULL):
            for index in range(len(row)):
                steps = list(row.steps)
                del steps[index]
                self.assertEqual(row.without_step(index), Row(row.places, tuple(steps)))

    def test_indices_of_steps_are_refused_first(self):
        for value in NO_INTEGERS + [-1, 4, 13]:
            for step in (STEP, (0, 5, "a"), None):
                self.assertIs(self.refused(TWINS.with_step, value, step), value)
            self.assertIs(self.refused(TWINS.without_step, value), value)
        self.assertEqual(self.refused(TWINS.without_step, 3), 3)
        self.assertEqual(self.refused(EMPTY.without_step, 0), 0)
        self.assertEqual(self.refused(FULL.with_step, 25, STEP), 25)

    def test_wrong_steps(self):
        for value in [value for value in STRANGE if not is_step(3, value)] + [(0, 3, "a"), (1, 0, "a"), (0, True, "a")]:
            self.told(InvalidOperation, TRIO.with_step, 2, value)
            self.told(InvalidOperation, FULL.with_step, 24, value if value != (0, 3, "a") else (0, 12, "a"))

    def test_too_many_steps(self):
        self.assertEqual(self.told(TooMany, FULL.with_step, 0, STEP).limit, 24)
        self.assertEqual(len(FULL.without_step(5).with_step(23, STEP)), 24)

    def test_parts(self):
        for row in (TRIO, LOOP, EMPTY):
            for first in range(len(row) + 1):
                for last in range(first, len(row) + 1):
                    self.assertEqual(row.part(first, last), Row(row.places, row.steps[first:last]))

    def test_wrong_parts(self):
        for value in NO_INTEGERS + [-1, 5]:
            self.assertIs(self.refused(LOOP.part, value, 9), value)
            self.assertIs(self.refused(LOOP.part, value, None), value)
            self.assertIs(self.refused(LOOP.part, 0, value), value)
        self.assertEqual(self.refused(LOOP.part, 3, 2), 2)
        self.assertEqual(self.refused(LOOP.part, 5, 2), 5)


class ChangingTest(Case):
    def test_backwards(self):
        for row in ALL:
            back = row.backwards()
            self.assertEqual(back.steps, row.steps[::-1])
            self.assertEqual([back.deed[place] for place in row.deed], list(range(row.places)))

    def test_renamed(self):
        names = (3, 1, 0, 2)
        row = LOOP.renamed(names)
        self.assertEqual(row.steps, ((1, 3, "a"), (0, 1, "b"), (0, 2, "a"), (2, 3, "b")))
        self.assertEqual([row.deed[names[place]] for place in range(4)], [names[LOOP.deed[place]] for place in range(4)])
        self.assertEqual(Row(1).renamed((0,)), Row(1))
        self.assertEqual(Row(3).renamed((2, 0, 1)), Row(3))

    def test_wrong_names(self):
        for value in list(STRANGE) + [(0, 1), (0, 1, 2, 3), (0, 0, 1), (0, 1, 3), [0, 1, 2], (False, 1, 2), "012",
                                      {0: 0, 1: 1, 2: 2}, (0, 1, LONG), (0, 1, None)]:
            self.told(InvalidOperation, TRIO.renamed, value)

    def test_owned(self):
        self.assertEqual(LOOP.owned("zyxw").steps, ((0, 1, "z"), (1, 2, "y"), (2, 3, "x"), (0, 3, "w")))
        self.assertEqual(EMPTY.owned(""), EMPTY)

    def test_wrong_owners(self):
        for value in all_but("ab", "on") + ["abc", "aB", "a ", "a\n", "a\u00e4", ("a", "b"), ["a", "b"]]:
            self.told(InvalidOperation, TRIO.owned, value)
        self.told(InvalidOperation, EMPTY.owned, "a")

    def test_wider(self):
        for places in range(3, 13):
            self.assertEqual(TRIO.wider(places), Row(places, TRIO.steps))
        for value in NO_PLACES + [0, 1, 2, 13]:
            self.assertEqual(self.refused(TRIO.wider, value), value)

    def test_sums(self):
        both = LOOP + Row(4, ((0, 2, "k"),))
        self.assertEqual(both.steps, LOOP.steps + ((0, 2, "k"),))
        self.assertEqual(FULL + EMPTY, FULL)
        self.assertEqual(FULL.part(0, 10) + FULL.part(10, 24), FULL)

    def test_wrong_sums(self):
        for value in list(STRANGE) + [TRIO.steps, 0]:
            if not isinstance(value, Row) or value.places != 4:
                self.told(InvalidOperation, LOOP.__add__, value)
        with self.assertRaises(InvalidOperation):
            TRIO + LOOP
        self.assertEqual(self.told(TooMany, FULL.__add__, FULL.part(0, 1)).limit, 24)
        self.told(InvalidOperation, FULL.__add__, Row(11, (STEP,)))
        self.assertTrue(all(is_exchange(12, pair) for pair in FULL.exchanges))


if __name__ == "__main__":
    unittest.main()
