"""Very many moves: judged, made and changed as few ones are."""

from random import Random

from renamedown.decide.ways import is_way_paper
from renamedown.errors import InvalidMoves, TooMany
from renamedown.moves.passings import after_moves, is_moves, only_on, pass_back, pass_on, rows_along, undone
from renamedown.rows.rows import Row
from tests.common import FULL, LONG, LOOP, TRIO, TWINS, Case
from tests.test_plain import random_moves, random_row
from tests.test_ways import walked

BACK = ((3, "back"),)
OTHER = {"on": "back", "back": "on"}


class ToldTest(Case):
    def test_moves_back_as_five_on(self):
        told = only_on(BACK * 40000)
        self.assertEqual((len(told), told[0], told[-1]), (200000, (3, "on"), (3, "on")))
        self.assertEqual(set(told), {(3, "on")})
        for moves in (BACK * 40001, ((0, "back"),) * 40001, BACK * 40000 + ((0, "on"),), BACK * 200000):
            self.assertEqual(self.told(TooMany, only_on, moves).limit, 200000)
        self.told(InvalidMoves, only_on, BACK * 200001)
        random = Random(51)
        moves = random_moves(random, FULL, 60000)
        right = [(index, "on") for index, way in moves for _ in range(5 if way == "back" else 1)]
        self.assertEqual(only_on(moves), tuple(right))

    def test_undone_moves(self):
        told = undone(BACK * 200000)
        self.assertEqual((len(told), told[0], told[-1]), (200000, (3, "on"), (3, "on")))
        self.assertEqual(set(told), {(3, "on")})
        self.told(InvalidMoves, undone, BACK * 200001)
        random = Random(52)
        for many in (599, 600, 601, 1199, 1800, 200000):
            moves = random_moves(random, FULL, many)
            self.assertEqual(undone(moves), tuple((index, OTHER[way]) for index, way in reversed(moves)))
            moves = (((0, "on"), (4, "back"), (4, "back")) * many)[:many]
            self.assertEqual(undone(moves), tuple((index, OTHER[way]) for index, way in reversed(moves)))

    def test_rows_along_many_moves(self):
        rows = rows_along(LOOP, ((0, "on"),) * 2000)
        self.assertEqual((len(rows), rows[0], rows[1], rows[6]), (2001, LOOP, pass_on(LOOP, 0), LOOP))
        self.assertEqual(rows[-1], after_moves(LOOP, ((0, "on"),) * 2))
        self.assertEqual(self.told(TooMany, rows_along, LOOP, ((0, "on"),) * 2001).limit, 2000)
        self.told(InvalidMoves, rows_along, LOOP, BACK * 2000)
        self.told(InvalidMoves, rows_along, LOOP, ((0, "on"),) * 200001)

    def test_rows_along_are_those_of_the_single_moves(self):
        random = Random(53)
        for row in (TRIO, LOOP, TWINS, FULL, random_row(random, 12, 24, "ab")):
            for moves in self.sequences(random, row, 200):
                rows = [row]
                for index, way in moves:
                    rows.append(pass_on(rows[-1], index) if way == "on" else pass_back(rows[-1], index))
                self.assertEqual(list(rows_along(row, moves)), rows)

    def sequences(self, random, row, many):
        """Drawn moves, and such in which some moves come again and again."""
        yield random_moves(random, row, many)
        for size in (1, 2, 3, 5, 7):
            part = random_moves(random, row, size)
            yield (part * many)[:many]
            yield tuple(move for move in random_moves(random, row, many // 10) for _ in range(random.randrange(9, 12)))

    def test_many_moves_are_made(self):
        random = Random(54)
        for row in (TRIO, LOOP, TWINS, FULL, random_row(random, 12, 24, "abc"), random_row(random, 12, 24, "abc", 3)):
            for many in (599, 600, 601, 1300, 2500):
                for moves in self.sequences(random, row, many):
                    self.assertEqual(after_moves(row, moves), walked(row, moves))

    def test_equal_hundreds_of_moves(self):
        for moves in (((0, "on"),) * 600, ((0, "on"),) * 601, ((0, "on"), (0, "back")) * 300, ((0, "on"), (1, "on")) * 300,
                      ((1, "back"),) * 605, ((2, "on"), (1, "on"), (0, "on")) * 200):
            for times in (1, 2, 3, 5):
                for tail in ((), ((1, "on"),), moves[:17]):
                    self.assertEqual(after_moves(LOOP, moves * times + tail), walked(LOOP, moves * times + tail))

    def test_single_moves_are_made_as_the_document_tells(self):
        for first in [(a, b) for b in range(5) for a in range(b)]:
            for second in [(a, b) for b in range(5) for a in range(b)]:
                row = Row(5, ((*first, "x"), (*second, "y")))
                self.assertEqual(after_moves(row, ((0, "on"),)), pass_on(row, 0))
                self.assertEqual(after_moves(row, ((0, "back"),)), pass_back(row, 0))


class JudgedTest(Case):
    def test_one_wrong_move_among_many(self):
        right = ((1, "on"), (0, "back")) * 900
        self.assertIs(is_moves(LOOP, right), True)
        for wrong in ((True, "on"), (False, "back"), (3, "on"), (-1, "on"), (1, "no"), (1, None), (1, ["on"]), [1, "on"],
                      (1, "on", 0), (1,), (), None, "on", "1n", 1, LOOP, (LOOP, "on"), (1, LOOP), {1: "on", 2: "on"},
                      ([1], "on"), (LONG, "on"), ("1", "on"), (None, "on"), {}):
            for at in (0, 1, 599, 600, 601, 1198, 1200, 1799):
                moves = right[:at] + (wrong,) + right[at + 1:]
                self.assertIs(is_moves(LOOP, moves), False, (wrong, at))
                self.told(InvalidMoves, after_moves, LOOP, moves)
                if wrong != (3, "on"):
                    self.told(InvalidMoves, undone, moves)

    def test_true_is_not_1_in_equal_hundreds(self):
        for way in ("on", "back"):
            self.assertIs(is_moves(LOOP, ((1, way),) * 600 + ((True, way),) * 600), False)
            self.assertIs(is_moves(LOOP, ((0, way),) * 1200 + ((False, way),)), False)
            self.assertIs(is_moves(LOOP, ((True, way),) * 1200), False)
            self.assertIs(is_moves(LOOP, ((1, way),) * 1800), True)

    def test_indices_are_judged_in_all_hundreds(self):
        for row in (TRIO, LOOP, FULL):
            last = len(row) - 2
            self.assertIs(is_moves(row, ((0, "on"),) * 1200 + ((last, "back"),)), True)
            self.assertIs(is_moves(row, ((0, "on"),) * 1200 + ((last + 1, "back"),)), False)
            self.assertIs(is_moves(row, ((0, "on"),) * 1200 + ((-1, "back"),)), False)

    def test_papers_of_200000_moves(self):
        random = Random(55)
        moves = random_moves(random, FULL, 200000)
        other = after_moves(FULL, moves)
        self.assertIs(is_way_paper(FULL, other, ("moves", moves)), True)
        self.assertIs(is_way_paper(FULL, other, ("moves", moves + moves[:1])), False)
        self.assertIs(is_way_paper(FULL, other, ("moves", moves[:-1])), False)
        self.assertEqual(after_moves(other, undone(moves)), FULL)
        self.assertIs(is_way_paper(LOOP, LOOP, ("moves", ((0, "on"),) * 199998)), True)
        self.assertIs(is_way_paper(LOOP, LOOP, ("moves", ((0, "on"),) * 199999)), False)
        self.assertIs(is_way_paper(LOOP, pass_back(LOOP, 0), ("moves", ((0, "on"),) * 199997)), True)
