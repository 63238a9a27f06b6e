"""Shares of a deed: deeds that make it one after the other, with as few exchanges as it has."""

from math import comb, factorial

from renamedown.base.deeds import are_lengths, back_of, behind, check_deed, is_deed, least_steps, renamed_deed
from renamedown.base.deeds import rest_deed, ring_lengths
from renamedown.base.words import check_number, is_below
from renamedown.count.between import deeds_within, lies_in, rest_of
from renamedown.count.least import is_least
from renamedown.count.numbers import power
from renamedown.errors import InvalidOperation, NoWay, TooMany
from renamedown.moves.plain import singles_of
from renamedown.rows.rows import Row, check_row

MAX_SHARES = 5000

_MOST = 24


def _are_deeds(places, value, most):
    """Whether the value is a tuple of deeds of so many places, not too many."""
    if not isinstance(value, tuple) or len(value) > most:
        return False
    return all([is_deed(deed) and len(deed) == places for deed in value])


def is_shares(whole, value):
    """Whether the value is shares of the whole."""
    check_deed(whole)
    if not _are_deeds(len(whole), value, _MOST) or value == ():
        return False
    done = rest_deed(len(whole))
    for deed in value:
        done = behind(done, deed)
    return done == whole and sum([least_steps(deed) for deed in value]) == least_steps(whole)


def _check_shares(whole, shares):
    """Raise InvalidDeed, or InvalidOperation unless these are shares of the whole."""
    if not is_shares(whole, shares):
        raise InvalidOperation("these are no shares of the whole")


def count_shares(whole, many):
    """How many shares with so many deeds there are."""
    check_deed(whole)
    check_number(many, 1, _MOST)
    count = 1
    for length in ring_lengths(whole):
        count = count * comb(many * length, length) // ((many - 1) * length + 1)
    return count


def _begins(whole):
    """The deeds with which shares of the whole can begin, ascending, each with what is left behind it."""
    return [(deed, rest_of(deed, whole)) for deed in deeds_within(whole)]


def all_shares(whole, many):
    """All shares with so many deeds, ascending."""
    if count_shares(whole, many) > MAX_SHARES:
        raise TooMany(MAX_SHARES)
    known = {}
    begun = [((), whole)]
    for _ in range(many - 1):
        for missing in sorted(set([pair[1] for pair in begun])):
            if missing not in known:
                known[missing] = _begins(missing)
        begun = [(part + (deed,), rest) for part, left in begun for deed, rest in known[left]]
    return tuple([part + (left,) for part, left in begun])


def share_behind(whole, first):
    """The deed that makes shares of the whole if it is put behind the first ones."""
    check_deed(whole)
    if not _are_deeds(len(whole), first, _MOST - 1):
        raise InvalidOperation("the first shares must be a tuple of at most 23 deeds with as many places")
    left = whole
    for index, deed in enumerate(first):
        if not lies_in(deed, left):
            raise NoWay(index)
        left = rest_of(deed, left)
    return left


def shares_passed(whole, shares, index, way):
    """The shares behind a passing of two neighbours."""
    _check_shares(whole, shares)
    check_number(index, 0, len(shares) - 2)
    if way not in ("on", "back"):
        raise InvalidOperation("the way must be on or back")
    one, other = shares[index], shares[index + 1]
    pair = (other, renamed_deed(one, other)) if way == "on" else (renamed_deed(other, back_of(one)), one)
    return shares[:index] + pair + shares[index + 2:]


def _are_cuts(steps, value):
    """Whether the value is cuts of a row with so many steps."""
    if not isinstance(value, tuple) or len(value) > _MOST - 1:
        return False
    return all([is_below(steps + 1, cut) for cut in value]) and list(value) == sorted(value)


def shares_of(row, cuts):
    """The deeds of the parts of a row, whose exchanges are least for its deed."""
    check_row(row)
    if not is_least(row.deed, row.exchanges):
        raise InvalidOperation("the exchanges of the row are not least for its deed")
    if not _are_cuts(len(row), cuts):
        raise InvalidOperation("these are no cuts of the row")
    ends = (0,) + cuts + (len(row),)
    return tuple([row.part(first, last).deed for first, last in zip(ends[:-1], ends[1:])])


def row_of_shares(whole, shares):
    """A row and cuts that have these shares."""
    _check_shares(whole, shares)
    parts = [singles_of(share) for share in shares]
    steps = tuple([single + ("a",) for part in parts for single in part])
    cuts = [sum([len(part) for part in parts[:many]]) for many in range(1, len(parts))]
    return (Row(len(whole), steps), tuple(cuts))


def _are_kinds(value):
    """Whether the value is a tuple of one to 24 ring lengths with one sum."""
    if not isinstance(value, tuple) or not 1 <= len(value) <= _MOST:
        return False
    return all([are_lengths(lengths) for lengths in value]) and len(set([sum(lengths) for lengths in value])) == 1


def count_kinds(kinds):
    """How many shares of a deed with one ring have these ring lengths, told in their order."""
    if not _are_kinds(kinds):
        raise InvalidOperation("these are no ring lengths with one sum")
    places = sum(kinds[0])
    if sum([places - len(kind) for kind in kinds]) != places - 1:
        return 0
    above, below = power(places, len(kinds) - 1), 1
    for lengths in kinds:
        above = above * factorial(len(lengths) - 1)
        for length in sorted(set(lengths)):
            below = below * factorial(lengths.count(length))
    return above // below
