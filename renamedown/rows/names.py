"""Rows that are alike: the one, with other names of its places, leads to the other one."""

from math import factorial

from renamedown.base.deeds import count_turns, is_deed, rings_of
from renamedown.base.words import MAX_STEPS, is_count, owners_counted
from renamedown.errors import InvalidNumber, TooMany
from renamedown.moves.plain import sign_of
from renamedown.rows.rows import check_row
from renamedown.rows.webs import groups_of, owners_in


def _parts_of(row):
    """For each group its triple in the kind of the row and its rings, the shorter ones first; ascending."""
    rings = sorted(rings_of(row.deed), key=len)
    parts = []
    for group in groups_of(row):
        own = [ring for ring in rings if ring[0] in group]
        counts = owners_counted(owners_in(row, group))
        lengths = tuple([len(ring) for ring in own])
        parts.append(((len(group), lengths, tuple([(owner, counts[owner]) for owner in counts])), own))
    return sorted(parts)


def kind_of(row):
    """The numbers of places, the ring lengths and the owners of all groups, ascending."""
    check_row(row)
    return tuple([triple for triple, _ in _parts_of(row)])


def are_alike(one, other):
    """Whether the one row, with some names of its places, leads to the other one."""
    # The kind tells the number of places, too.
    return kind_of(one) == kind_of(other)


def _places_in(parts):
    """The places of the rings, one behind the other."""
    return [place for _, rings in parts for ring in rings for place in ring]


def any_likeness(one, other):
    """Names with which the one row leads to the other one, or None."""
    if not are_alike(one, other):
        return None
    names = list(range(one.places))
    # Rings that stand at the same index are of the same length, in groups of the same triple.
    for place, name in zip(_places_in(_parts_of(one)), _places_in(_parts_of(other))):
        names[place] = name
    return tuple(names)


def is_likeness(one, other, value):
    """Whether the value is a tuple of names with which the one row leads to the other one."""
    check_row(one)
    check_row(other)
    if not is_deed(value) or len(value) != one.places:
        return False
    return sign_of(one.renamed(value)) == sign_of(other)


def count_own(row):
    """How many likenesses the row has with itself."""
    triples = kind_of(row)
    many = 1
    for _, lengths, _ in triples:
        many = many * count_turns(lengths)
    for triple in sorted(set(triples)):
        many = many * factorial(triples.count(triple))
    return many


def is_own(row, value):
    """Whether the value is a likeness of the row with itself."""
    return is_likeness(row, row, value)


def _check_times(times):
    """Raise InvalidNumber unless this is a number of times."""
    if not is_count(times):
        raise InvalidNumber(times)


def repeated(row, times):
    """The row so many times behind itself."""
    check_row(row)
    _check_times(times)
    if len(row) * times > MAX_STEPS:
        raise TooMany(MAX_STEPS)
    # A row without steps can be told more often than a tuple can be repeated.
    return row.with_all(row.steps * times) if len(row) > 0 else row


def sent_back(row, times):
    """The row behind so many turns in which the first step is put behind the last one."""
    check_row(row)
    _check_times(times)
    if len(row) == 0:
        return row
    turns = times % len(row)
    return row.with_all(row.steps[turns:] + row.steps[:turns])
