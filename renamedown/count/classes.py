"""The class of a row: all rows to which it leads, their number, and how far they are."""

from math import comb

from renamedown.base.deeds import behind, exchange_deed, rings_of
from renamedown.count.numbers import count_parted, counts_to, rooted_counts
from renamedown.decide.owners import count_owners
from renamedown.errors import TooMany
from renamedown.moves.making import passed, row_passed
from renamedown.moves.passings import is_moves
from renamedown.rows.rows import check_row
from renamedown.rows.webs import groups_of, rings_in, steps_in

MAX_CLASS = 5000


def _parts_of(row, groups):
    """For each of the groups its ring lengths and its number of steps."""
    lengths = [tuple(sorted([len(ring) for ring in rings_in(row, group)])) for group in groups]
    return tuple([(part, len(steps_in(row, group))) for part, group in zip(lengths, groups)])


def class_size(row):
    """How many rows the class of the row has."""
    check_row(row)
    return count_parted(_parts_of(row, groups_of(row))) * count_owners(row)


def _rings_behind(row, group, exchange):
    """The ring lengths of a group that are left for the steps behind this first exchange.

    They are parted: those of the rings with places of the exchange, and the others.
    """
    left = behind(exchange_deed(row.places, exchange), row.deed)
    rings = [ring for ring in rings_of(left) if ring[0] in group]
    rooted = [exchange[0] in ring or exchange[1] in ring for ring in rings]
    root = tuple(sorted([len(ring) for ring, joined in zip(rings, rooted) if joined]))
    return (root, tuple(sorted([len(ring) for ring, joined in zip(rings, rooted) if not joined])))


def _firsts_in(row, group):
    """The dict from the exchanges in a group to how many joined tuples of its steps begin with it."""
    later = len(steps_in(row, group)) - 1
    counts = counts_to(len(group), later)
    firsts, known = {}, {}
    for exchange in [(a, b) for a in group for b in group if a < b]:
        rings = _rings_behind(row, group, exchange)
        if rings not in known:
            known[rings] = rooted_counts(counts, rings[0], rings[1])[later]
        firsts[exchange] = known[rings]
    return firsts


def first_counts(row):
    """The dict from exchanges to how many rows of the class begin with them."""
    check_row(row)
    groups = groups_of(row)
    owners = count_owners(row)
    counts = {}
    for group in [group for group in groups if len(group) > 1]:
        rest = count_parted(_parts_of(row, [other for other in groups if other != group]))
        # The steps of the group stand anywhere but for the first one.
        orders = comb(len(row) - 1, len(steps_in(row, group)) - 1)
        for exchange, many in _firsts_in(row, group).items():
            counts[exchange] = orders * many * rest * owners
    return {exchange: counts[exchange] for exchange in sorted(counts)}


def _check_small(row):
    """Raise TooMany if the row leads to too many rows."""
    if class_size(row) > MAX_CLASS:
        raise TooMany(MAX_CLASS)


def _behind_moves(steps, ways):
    """The pairs of a move in one of these ways and the steps behind it."""
    found = []
    for index in range(len(steps) - 1):
        for way in ways:
            pair = passed(steps[index], steps[index + 1], way)
            found.append(((index, way), steps[:index] + pair + steps[index + 2:]))
    return found


def _spread(row, ways):
    """The dict from the steps of the rows of the class to the steps ahead of them and the move from there.

    They stand in the order of their distances, if the moves can be made in both ways.
    """
    found = {row.steps: (None, None)}
    reached = [row.steps]
    at = 0
    while at < len(reached):
        steps = reached[at]
        for move, other in _behind_moves(steps, ways):
            if other not in found:
                found[other] = (steps, move)
                reached.append(other)
        at += 1
    return found


def _class_steps(row):
    """The steps of all rows of the class, ascending."""
    _check_small(row)
    # Passings on alone lead to all of them.
    return sorted(list(_spread(row, ("on",))))


def class_rows(row):
    """All rows of the class, ascending by their steps."""
    return tuple([row.with_all(steps) for steps in _class_steps(row)])


def place_in_class(row):
    """The index of the row among all rows of its class."""
    return _class_steps(row).index(row.steps)


def _way_in(found, steps):
    """The moves that lead from the first steps to these steps."""
    moves = []
    before, move = found[steps]
    while before is not None:
        moves.append(move)
        before, move = found[before]
    return tuple(moves[::-1])


def shortest_way(one, other):
    """As few moves as possible that lead from the one row to the other one, or None."""
    check_row(one)
    check_row(other)
    _check_small(one)
    if one.places != other.places:
        return None
    found = _spread(one, ("back", "on"))
    return _way_in(found, other.steps) if other.steps in found else None


def distance(one, other):
    """The least number of moves that lead from the one row to the other one, or None."""
    way = shortest_way(one, other)
    return None if way is None else len(way)


def is_shortest_way(one, other, value):
    """Whether the value is a shortest way, or None if there is no way."""
    many = distance(one, other)
    if many is None:
        return value is None
    return is_moves(one, value) and len(value) == many and row_passed(one, value) == other


def farthest(row):
    """The greatest distance from the row to a row of its class."""
    check_row(row)
    _check_small(row)
    found = _spread(row, ("back", "on"))
    return len(_way_in(found, list(found)[-1]))
