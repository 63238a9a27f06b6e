"""Texts of rows, moves and papers."""

from renamedown.base.words import MAX_PLACES, MAX_STEPS, PLACE_WORDS
from renamedown.decide.ways import has_reason_form
from renamedown.errors import InvalidMoves, InvalidPaper, ParseError
from renamedown.moves.making import found_for
from renamedown.moves.passings import MAX_MOVES, are_moves, check_moves, every_move
from renamedown.rows.rows import Row, check_row, step_of_line


def _lines_of(text):
    """The lines of a text."""
    if not isinstance(text, str):
        raise ParseError(None)
    return text.split("\n")


def write_row(row):
    """The text of a row."""
    check_row(row)
    return "\n".join((f"{row.places} places",) + row.lines)


def read_row(text):
    """The row with a text."""
    lines = _lines_of(text)
    heads = [f"{many} places" for many in range(1, MAX_PLACES + 1)]
    if lines[0] not in heads:
        raise ParseError(0)
    places = heads.index(lines[0]) + 1
    steps = [step_of_line(places, line) for line in lines[1:]]
    if None in steps:
        raise ParseError(steps.index(None) + 1)
    return Row(places, tuple(steps))


def _text_of_moves(moves):
    """The text of moves that are known to be such."""
    table = {(index, way): f"{index} {way}" for index, way in every_move()}
    return "\n".join(found_for(moves, table)) if len(moves) > 0 else "nothing"


def _moves_of_lines(lines, first):
    """The moves with these lines, of which the first one has the index `first` in its text."""
    if lines == ["nothing"]:
        return ()
    table = {f"{index} {way}": (index, way) for index, way in every_move()}
    moves = [table.get(line) for line in lines]
    if None in moves:
        raise ParseError(first + moves.index(None))
    if len(moves) > MAX_MOVES:
        raise InvalidMoves("these are too many moves")
    return tuple(moves)


def write_moves(moves):
    """The text of moves."""
    check_moves(moves)
    return _text_of_moves(moves)


def read_moves(text):
    """The moves with a text."""
    return _moves_of_lines(_lines_of(text), 0)


def write_paper(paper):
    """The text of a way paper."""
    if not isinstance(paper, tuple) or len(paper) != 2:
        raise InvalidPaper("a paper is a pair")
    word, told = paper
    if word == "moves" and are_moves(told, MAX_STEPS - 2):
        return "moves\n" + _text_of_moves(told)
    if word == "reason" and has_reason_form(MAX_PLACES, told):
        return " ".join(["reason"] + [str(part) for part in told])
    raise InvalidPaper("this is no paper of moves or of a reason")


def _reason_of(words):
    """The reason that these words tell, or None."""
    parts = [PLACE_WORDS.index(word) if word in PLACE_WORDS else word for word in words]
    return tuple(parts) if has_reason_form(MAX_PLACES, tuple(parts)) else None


def read_paper(text):
    """The way paper with a text."""
    lines = _lines_of(text)
    if lines[0] == "moves":
        if len(lines) == 1:
            raise ParseError(1)
        return ("moves", _moves_of_lines(lines[1:], 1))
    words = lines[0].split(" ")
    reason = _reason_of(words[1:])
    if words[0] != "reason" or reason is None:
        raise ParseError(0)
    if len(lines) > 1:
        raise ParseError(1)
    return ("reason", reason)
