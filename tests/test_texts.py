"""Texts of rows, moves and papers [16.1], [16.2]."""

from random import Random
from time import perf_counter

from renamedown.decide.ways import way_paper
from renamedown.errors import InvalidMoves, InvalidPaper, InvalidRow, ParseError, RowError
from renamedown.rows.rows import Row
from renamedown.text.texts import read_moves, read_paper, read_row, write_moves, write_paper, write_row
from tests.common import FULL, LONG, LOOP, STRANGE, TRIO, TWINS, Case, all_but
from tests.test_passings import WRONG_MOVES
from tests.test_plain import random_moves, random_row
from tests.test_statements import all_rows
from tests.test_webs import NO_ROWS, PARTED

SAMPLES = (TRIO, TWINS, LOOP, FULL, PARTED, Row(1), Row(12), Row(2, ((0, 1, "z"),) * 24))
NO_TEXTS = [value for value in STRANGE if not isinstance(value, str)]
EDGES = ((22, "on"), (0, "back"), (22, "back"), (10, "on"))
SIGNS = " \n019a-zZ_ondbck\t\r\u0660\u00b2"


def changed_texts(text):
    """The texts with one sign or line put in, left out or exchanged."""
    found = []
    for parts, signs, glue in ((list(text), SIGNS, ""), (text.split("\n"), ("", "0 1 a", "0 on", "nothing", "moves"), "\n")):
        for at in range(len(parts) + 1):
            found += [parts[:at] + [sign] + parts[at:] for sign in signs]
            if at < len(parts):
                found += [parts[:at] + [sign] + parts[at + 1:] for sign in signs] + [parts[:at] + parts[at + 1:]]
        found = [glue.join(parts) if isinstance(parts, list) else parts for parts in found]
    return [other for other in found if other != text]


class TextCase(Case):
    def wrong_line(self, read, text):
        """The line that a wrong text is refused with."""
        return self.told(ParseError, read, text).line

    def check_texts(self, read, write, value, first_wrong):
        """Check that the value is read back, and that each text changed in one place is refused or something else's."""
        text = write(value)
        self.assertEqual(read(text), value)
        for other in changed_texts(text):
            wrong = first_wrong(other)
            if wrong is None:
                told = read(other)
                self.assertNotEqual(told, value)
                self.assertEqual(write(told), other)
            else:
                self.assertEqual(self.wrong_line(read, other), wrong, other)


def wrong_row_line(text):
    """The line with which a text is refused as none of a row, or None."""
    head, *lines = text.split("\n")
    sizes = {f"{places} places": places for places in range(1, 13)}
    if head not in sizes:
        return 0
    right = {f"{a} {b} {owner}" for b in range(sizes[head]) for a in range(b) for owner in "abcdefghijklmnopqrstuvwxyz"}
    return next((at for at, line in enumerate(lines, 1) if line not in right), None)


def wrong_move_line(text):
    """The line with which a text is refused as none of moves, or None."""
    right = {f"{index} {way}" for index in range(23) for way in ("on", "back")}
    wrong = [at for at, line in enumerate(text.split("\n")) if line not in right]
    return wrong[0] if wrong and text != "nothing" else None


def wrong_paper_line(text):
    """The line with which a text is refused as none of a paper, or None."""
    head, _, rest = text.partition("\n")
    places = range(12)
    right = {f"reason deed {x}" for x in places} | {f"reason joined {x} {y}" for y in places for x in range(y)}
    right |= {f"reason owner {x} {owner}" for x in places for owner in "abcdefghijklmnopqrstuvwxyz"}
    if head in right:
        return 1 if "\n" in text else None
    if head != "moves":
        return 0
    wrong = wrong_move_line(rest) if "\n" in text else 0
    return None if wrong is None else wrong + 1


class RowTest(TextCase):
    def test_texts(self):
        self.assertEqual(write_row(Row(1)), "1 places")
        self.assertEqual(write_row(Row(12, ((10, 11, "z"), (0, 9, "a")))), "12 places\n10 11 z\n0 9 a")
        self.assertEqual(write_row(TWINS), "5 places\n0 1 a\n3 4 b\n0 1 c")

    def test_texts_are_read_back(self):
        random = Random(161)
        rows = list(SAMPLES) + all_rows(3, 2, "ab") + [random_row(random, places, 24, "aqz") for places in range(2, 13)]
        for row in rows:
            self.assertEqual(read_row(write_row(row)), row)
            self.assertEqual(write_row(row), "\n".join((f"{row.places} places",) + row.lines))

    def test_changed_texts(self):
        for row in (TRIO, Row(1), Row(2), Row(11, ((1, 10, "a"),)), PARTED, Row(12, ((1, 10, "a"), (10, 11, "b")))):
            self.check_texts(read_row, write_row, row, wrong_row_line)

    def test_first_wrong_lines(self):
        for text, line in (("", 0), ("\n3 places", 0), ("0 places", 0), ("13 places", 0), ("03 places", 0), ("3 places ", 0),
                           (" 3 places", 0), ("3  places", 0), ("3 place", 0), ("3", 0), ("three places", 0), ("1 place", 0),
                           ("-3 places", 0), ("3 places\n", 1), ("3 places\n\n0 1 a", 1), ("3 places\n0 1 a\n", 2),
                           ("3 places\n0 1 a\n0 3 a\n9", 2), ("3 places\n00 1 a", 1), ("3 places\n0 1 a\n1 0 a", 2),
                           ("3 places\n0 1 A", 1), ("3 places\n0 1", 1), ("3 places\n0 1 a b", 1), ("3 places\r\n0 1 a", 0),
                           ("1 places\n0 1 a", 1), ("2 places\n0 1 a\n0 2 a", 2), ("x\ny", 0), ("\u0663 places", 0)):
            self.assertEqual(self.wrong_line(read_row, text), line, text)

    def test_24_steps_and_more(self):
        text = "2 places" + "\n0 1 a" * 24
        self.assertEqual(read_row(text), Row(2, ((0, 1, "a"),) * 24))
        self.told(InvalidRow, read_row, text + "\n0 1 a")
        self.told(InvalidRow, read_row, text + "\n0 1 a" * 1000)
        self.assertEqual(self.wrong_line(read_row, text + "\n0 1 a\n"), 26)
        self.assertEqual(self.wrong_line(read_row, text + "\n0 2 a\n0 1 a"), 25)

    def test_wrong_arguments(self):
        for value in NO_ROWS:
            self.told(InvalidRow, write_row, value)
        for value in NO_TEXTS:
            self.assertIsNone(self.wrong_line(read_row, value))
        for value in [value for value in STRANGE if isinstance(value, str)]:
            self.assertEqual(self.wrong_line(read_row, value), 0)


class MovesTest(TextCase):
    def test_texts(self):
        self.assertEqual(write_moves(()), "nothing")
        self.assertEqual(write_moves(EDGES), "22 on\n0 back\n22 back\n10 on")
        for index in range(23):
            for way in ("on", "back"):
                self.assertEqual(write_moves(((index, way),)), f"{index} {way}")
                self.assertEqual(read_moves(f"{index} {way}"), ((index, way),))

    def test_changed_texts(self):
        for moves in ((), EDGES, ((1, "on"),), ((2, "back"), (21, "on")), ((3, "on"),) * 7):
            self.check_texts(read_moves, write_moves, moves, wrong_move_line)

    def test_first_wrong_lines(self):
        for text, line in (("", 0), ("\n0 on", 0), ("0 on\n", 1), ("0 on\n\n1 on", 1), ("nothing\n", 0), ("nothing\n0 on", 0),
                           ("0 on\nnothing", 1), ("Nothing", 0), ("23 on", 0), ("00 on", 0), ("0 on ", 0), (" 0 on", 0),
                           ("0  on", 0), ("0 On", 0), ("-1 on", 0), ("0", 0), ("on", 0), ("0 on on", 0), ("1 back\n1 bac", 1),
                           ("0 on\r\n1 on", 0), ("0 on\n22 on\n23 on\nx", 2), ("nothing\nnothing", 0), ("1" * 300 + " on", 0)):
            self.assertEqual(self.wrong_line(read_moves, text), line, text)

    def test_many_moves(self):
        random = Random(162)
        begin = perf_counter()
        moves = random_moves(random, FULL, 200000)
        text = write_moves(moves)
        self.assertEqual(text.count("\n"), 199999)
        self.assertEqual(read_moves(text), moves)
        self.told(InvalidMoves, read_moves, text + "\n0 on")
        self.assertEqual(self.wrong_line(read_moves, text + "\n0 on\n"), 200001)
        self.assertEqual(self.wrong_line(read_moves, text + "\n23 on"), 200000)
        self.told(InvalidMoves, write_moves, moves + moves[:1])
        self.told(InvalidMoves, write_moves, moves[1:] + ((23, "on"),))
        paper = ("moves", moves)
        self.assertEqual(read_paper(write_paper(paper)), paper)
        self.told(InvalidPaper, write_paper, ("moves", moves + moves[:1]))
        self.told(InvalidMoves, read_paper, "moves\n" + text + "\n0 on")
        self.assertEqual(self.wrong_line(read_paper, "moves\n" + text + "\n"), 200001)
        self.assertLess(perf_counter() - begin, 8)

    def test_many_equal_moves(self):
        for moves in (((5, "on"),) * 200000, ((5, "on"), (6, "back")) * 1000):
            self.assertEqual(write_moves(moves).split("\n"), [f"{index} {way}" for index, way in moves])
            self.assertEqual(read_moves(write_moves(moves)), moves)

    def test_wrong_arguments(self):
        for value in all_but(()) + WRONG_MOVES + [((23, "on"),)]:
            if value != ((0, "on"),):
                self.told(InvalidMoves, write_moves, value)
        for value in NO_TEXTS:
            self.assertIsNone(self.wrong_line(read_moves, value))
        for value in [value for value in STRANGE if isinstance(value, str)]:
            self.assertEqual(self.wrong_line(read_moves, value), 0)


class PaperTest(TextCase):
    def all_reasons(self):
        """All reasons of some rows."""
        places = range(12)
        return ([("deed", x) for x in places] + [("joined", x, y) for y in places for x in range(y)]
                + [("owner", x, owner) for x in places for owner in "abcdefghijklmnopqrstuvwxyz"])

    def test_reasons(self):
        for reason in self.all_reasons():
            text = " ".join(map(str, ("reason",) + reason))
            self.assertEqual(write_paper(("reason", reason)), text)
            self.assertEqual(read_paper(text), ("reason", reason))

    def test_moves(self):
        self.assertEqual(write_paper(("moves", ())), "moves\nnothing")
        self.assertEqual(write_paper(("moves", EDGES)), "moves\n22 on\n0 back\n22 back\n10 on")
        self.assertEqual(read_paper("moves\nnothing"), ("moves", ()))
        self.assertEqual(read_paper("moves\n22 on\n0 back"), ("moves", EDGES[:2]))

    def test_papers_of_rows(self):
        random = Random(163)
        pairs = [(row, other) for row in (TRIO, LOOP, TWINS) for other in (row, row.backwards(), row.owned("z" * len(row)))]
        pairs += [(random_row(random, 12, 24, "ab", 2), random_row(random, 12, 24, "ab", 2)) for _ in range(5)]
        for one, other in pairs:
            paper = way_paper(one, other)
            self.assertEqual(read_paper(write_paper(paper)), paper)

    def test_changed_texts(self):
        papers = [("moves", ()), ("moves", EDGES), ("moves", ((1, "on"),)), ("reason", ("deed", 1)), ("reason", ("deed", 10)),
                  ("reason", ("joined", 0, 3)), ("reason", ("joined", 1, 11)), ("reason", ("owner", 0, "a"))]
        for paper in papers:
            self.check_texts(read_paper, write_paper, paper, wrong_paper_line)

    def test_first_wrong_lines(self):
        for text, line in (("", 0), ("moves", 1), ("moves\n", 1), ("moves\n\n0 on", 1), ("moves\n0 on\n", 2), ("moves ", 0),
                           ("moves\nnothing\n", 1), ("moves\nnothing\n0 on", 1), ("moves\n0 on\nnothing", 2), ("Moves\n0 on", 0),
                           ("moves\n0 on\n23 on", 2), ("moves\nmoves", 1), ("0 on", 0), ("nothing", 0), ("reason", 0),
                           ("reason ", 0), ("reason deed", 0), ("reason deed 12", 0), ("reason deed 02", 0), ("reason deed a", 0),
                           ("reason deed 2\n", 1), ("reason deed 2\n0 on", 1), ("reason deed 2 3", 0), ("reason joined 3 0", 0),
                           ("reason joined 3 3", 0), ("reason joined 3", 0), ("reason joined 0 3 a", 0), ("reason owner 0 A", 0),
                           ("reason owner 0 1", 0), ("reason owner a 0", 0), ("reason owner 0 ab", 0), ("reason owner 0", 0),
                           ("reason moves", 0), ("reason deed  2", 0), (" reason deed 2", 0), ("reason deed 2 ", 0),
                           ("deed 2", 0), ("reasons deed 2", 0), ("reason reason deed 2", 0), ("x\nreason deed 2", 0)):
            self.assertEqual(self.wrong_line(read_paper, text), line, text)

    def test_what_is_no_paper(self):
        wrong = [("moves", None), ("moves", [(0, "on")]), ("moves",), ("moves", (), ()), ["moves", ()], ("Moves", ()), "moves",
                 ("reason", ()), ("reason", ("deed",)), ("reason", ("deed", 12)), ("reason", ("deed", -1)), ("deed", 2),
                 ("reason", ("deed", True)), ("reason", ("deed", 1, 2)), ("reason", ["deed", 1]), ("reason", ("joined", 1, 0)),
                 ("reason", ("joined", 0, 0)), ("reason", ("joined", 0, 12)), ("reason", ("joined", False, 1)),
                 ("reason", ("joined", 0)), ("reason", ("joined", 0, 1, 2)), ("reason", ("owner", 0, "A")), ("reason", TRIO),
                 ("reason", ("owner", 0, "")), ("reason", ("owner", 0, "ab")), ("reason", ("owner", 12, "a")), (TRIO, TRIO),
                 ("reason", ("owner", True, "a")), ("reason", ("owner", "a", 0)), ("reason", ("owner", 0)), ("moves", LOOP),
                 ("reason", ("owner", 0, "a", "a")), ("reason", ("deed", LONG)), ("reason", ("Deed", 0)), ("reason", (0, "deed")),
                 ("reason", "deed"), ("reason", ("owner", 0, ["a"])), (("moves",), ()), (None, ("deed", 1)), ("on", ((0, "on"),))]
        for value in wrong + list(STRANGE) + [("moves", moves) for moves in WRONG_MOVES + [((23, "on"),)]]:
            self.told(InvalidPaper, write_paper, value)

    def test_wrong_texts(self):
        for value in NO_TEXTS:
            self.assertIsNone(self.wrong_line(read_paper, value))
        for value in [value for value in STRANGE if isinstance(value, str)]:
            self.assertEqual(self.wrong_line(read_paper, value), 0)
        self.assertTrue(issubclass(InvalidPaper, RowError))
