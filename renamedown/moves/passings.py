"""Passings: two neighbours of a row pass one another, and one of them is renamed."""

from itertools import chain

from renamedown.base.words import MAX_STEPS, check_number, is_integer
from renamedown.errors import InvalidMoves, InvalidNumber, InvalidOperation, TooMany
from renamedown.moves.making import blocks_of, found_for, row_behind, row_passed
from renamedown.rows.rows import check_row

MAX_MOVES = 200000

_MAX_ROWS = 2000
_ROUND = 6


def _have_no_boolean(moves):
    """Whether no index of these pairs is True or False, which are equal to indices."""
    return [index for index, _ in moves if index is True or index is False] == []


def _are_right(moves, last):
    """Whether these values, at least one, are moves with indices of at most the last one."""
    sizes = [len(move) for move in moves if type(move) == tuple]
    if sizes.count(2) < len(moves):
        return False
    indices = [index for index, way in moves if type(index) == int and (way == "on" or way == "back")]
    if len(indices) < len(moves):
        return False
    told = sorted(set(indices))
    return told[0] >= 0 and told[-1] <= last


def are_moves(value, last):
    """Whether the value is a tuple of moves, not too many, with indices of at most the last one."""
    if not isinstance(value, tuple) or len(value) > MAX_MOVES:
        return False
    before = None
    for block in blocks_of(value):
        # A block that is equal to the one before can only be wrong by booleans.
        if not (_have_no_boolean(block) if block == before else _are_right(block, last)):
            return False
        before = block
    return True


def check_moves(moves):
    """Raise InvalidMoves unless the value can be the moves of some row."""
    if not are_moves(moves, MAX_STEPS - 2):
        raise InvalidMoves("these are no moves of any row")


def check_pair(row, index):
    """Raise InvalidRow, or InvalidNumber unless a step and a next one stand at the index."""
    check_row(row)
    check_number(index, 0, len(row) - 2)


def pass_on(row, index):
    """The row behind a passing on."""
    check_pair(row, index)
    return row_behind(row, (index, "on"))


def pass_back(row, index):
    """The row behind a passing back."""
    check_pair(row, index)
    return row_behind(row, (index, "back"))


def is_moves(row, value):
    """Whether the value is a tuple of moves of the row, not too many."""
    check_row(row)
    return are_moves(value, len(row) - 2)


def _check_moves_of(row, moves):
    """Raise InvalidRow, or InvalidMoves unless these are moves of the row."""
    if not is_moves(row, moves):
        raise InvalidMoves("these are no moves of the row")


def after_moves(row, moves):
    """The row behind all moves, one after the other."""
    _check_moves_of(row, moves)
    return row_passed(row, moves)


def rows_along(row, moves):
    """The rows behind none, one, two and so on of the moves."""
    _check_moves_of(row, moves)
    if len(moves) > _MAX_ROWS:
        raise TooMany(_MAX_ROWS)
    rows = [row]
    before, many = None, 0
    for move in moves:
        many = many + 1 if move == before else 1
        before = move
        # Six equal moves lead back, so the row behind the sixth one is there already.
        rows.append(rows[-_ROUND] if many >= _ROUND else row_behind(rows[-1], move))
    return tuple(rows)


def other_way(way):
    """The way that takes a passing back."""
    return "back" if way == "on" else "on"


def every_move():
    """All moves that a row can have."""
    return [(index, way) for index in range(MAX_STEPS - 1) for way in ("on", "back")]


def undone(moves):
    """The moves that lead back."""
    check_moves(moves)
    table = {(index, way): (index, other_way(way)) for index, way in every_move()}
    return tuple(found_for(moves[::-1], table))


def all_on(moves):
    """The moves, known to be such, with five passings on in the place of each one back."""
    table = {(index, way): ((index, "on"),) * (1 if way == "on" else _ROUND - 1) for index, way in every_move()}
    return tuple(chain.from_iterable(found_for(moves, table)))


def only_on(moves):
    """The moves with five passings on in the place of each one back, if these are not too many."""
    check_moves(moves)
    back = len([1 for _, way in moves if way == "back"])
    if len(moves) + (_ROUND - 2) * back > MAX_MOVES:
        raise TooMany(MAX_MOVES)
    return all_on(moves)


def leading_moves(source, target, renamed):
    """The moves that lead a step from one index to another one."""
    if source <= target:
        way = "on" if renamed else "back"
        return tuple([(index, way) for index in range(source, target)])
    way = "back" if renamed else "on"
    return tuple([(index, way) for index in range(source - 1, target - 1, -1)])


def moves_of_lead(row, source, target, renamed):
    """The moves that lead a step of the row from one index to another one, if all of this is right."""
    check_row(row)
    check_number(source, 0, len(row) - 1)
    check_number(target, 0, len(row) - 1)
    if not isinstance(renamed, bool):
        raise InvalidOperation("renamed must be True or False")
    return leading_moves(source, target, renamed)


def led(row, source, target, *, renamed=False):
    """The row behind leading a step from one index to another one, and the moves."""
    moves = moves_of_lead(row, source, target, renamed)
    return (row_passed(row, moves), moves)


def turned_over(row, index, *, many):
    """The row behind so many passings on at an index, a negative number for passings back."""
    check_pair(row, index)
    if not is_integer(many):
        raise InvalidNumber(many)
    return row_passed(row, ((index, "on"),) * (many % _ROUND))


def period_at(row, index):
    """The least number of at least 1 of passings on at an index which change nothing."""
    many = 1
    while turned_over(row, index, many=many) != row:
        many += 1
    return many
