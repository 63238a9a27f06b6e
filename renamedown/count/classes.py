"""The class of a row: all rows to which it leads, their number, and how far they are."""

from math import comb

from renamedown.base.deeds import behind, exchange_deed, rings_of
from renamedown.count.charts import Chart
from renamedown.count.numbers import lengths_for, numbers_for, parted_count, rooted_count
from renamedown.decide.owners import count_owners
from renamedown.errors import TooMany
from renamedown.moves.making import row_passed
from renamedown.moves.passings import is_moves
from renamedown.moves.plain import sign_of
from renamedown.rows.rows import check_row
from renamedown.rows.webs import groups_of, handles_of, owners_in

MAX_CLASS = 5000


def _parts_of(row, groups):
    """For each of the groups its ring lengths and its number of steps."""
    rings = sorted(rings_of(row.deed), key=len)
    return tuple([(tuple([len(ring) for ring in rings if ring[0] in group]), len(owners_in(row, group)))
                  for group in groups])


def class_size(row):
    """How many rows the class of the row has."""
    return parted_count(_parts_of(row, groups_of(row))) * count_owners(row)


def _rings_behind(row, group, exchange):
    """The ring lengths of a group that are left for the steps behind this first exchange.

    They are parted: those of the rings with places of the exchange, and the others.
    """
    left = behind(exchange_deed(row.places, exchange), row.deed)
    rings = [ring for ring in rings_of(left) if ring[0] in group]
    rooted = [exchange[0] in ring or exchange[1] in ring for ring in rings]
    root = tuple(sorted([len(ring) for ring, joined in zip(rings, rooted) if joined]))
    return (root, tuple(sorted([len(ring) for ring, joined in zip(rings, rooted) if not joined])))


def _firsts_in(row, group):
    """The dict from the exchanges in a group to how many joined tuples of its steps begin with it."""
    pairs = [(a, b) for a in group for b in group if a < b]
    left = [_rings_behind(row, group, exchange) for exchange in pairs]
    wanted = [lengths for root, others in sorted(set(left)) for lengths in lengths_for(root, others)]
    handles = handles_of(row, group)
    counts = numbers_for(sorted(set(wanted)), handles + max([len(others) for _, others in left]))
    known = {rings: rooted_count(counts, rings[0], rings[1], handles) for rings in sorted(set(left))}
    return {exchange: known[rings] for exchange, rings in zip(pairs, left)}


def first_counts(row):
    """The dict from exchanges to how many rows of the class begin with them."""
    check_row(row)
    groups = groups_of(row)
    owners = count_owners(row)
    counts = {}
    for group in [group for group in groups if len(group) > 1]:
        rest = parted_count(_parts_of(row, [other for other in groups if other != group]))
        # The steps of the group stand anywhere but for the first one.
        orders = comb(len(row) - 1, len(owners_in(row, group)) - 1)
        for exchange, many in _firsts_in(row, group).items():
            counts[exchange] = orders * many * rest * owners
    return {exchange: counts[exchange] for exchange in sorted(counts)}


def _check_small(row):
    """Raise TooMany if the row leads to too many rows."""
    if class_size(row) > MAX_CLASS:
        raise TooMany(MAX_CLASS)


def _class_numbers(row, chart):
    """The integers for all rows of the class, ascending."""
    return sorted([number for level in chart.levels_from(row.steps) for number in level])


def class_rows(row):
    """All rows of the class, ascending by their steps."""
    _check_small(row)
    chart = Chart(row)
    return tuple([row.with_all(chart.steps_of(number)) for number in _class_numbers(row, chart)])


def place_in_class(row):
    """The index of the row among all rows of its class."""
    _check_small(row)
    chart = Chart(row)
    return _class_numbers(row, chart).index(chart.number_of(row.steps))


def _check_two(one, other):
    """Raise InvalidRow unless both are rows, TooMany if the one row leads to too many."""
    check_row(one)
    check_row(other)
    _check_small(one)


def shortest_way(one, other):
    """As few moves as possible that lead from the one row to the other one, or None."""
    _check_two(one, other)
    if sign_of(one) != sign_of(other):
        return None
    return Chart(one).way_between(one.steps, other.steps)


def distance(one, other):
    """The least number of moves that lead from the one row to the other one, or None."""
    way = shortest_way(one, other)
    return None if way is None else len(way)


def is_shortest_way(one, other, value):
    """Whether the value is a shortest way, or None if there is no way."""
    _check_two(one, other)
    if value is None:
        return sign_of(one) != sign_of(other)
    # A shortest way leads to no row twice.
    if not isinstance(value, tuple) or len(value) >= MAX_CLASS or not is_moves(one, value):
        return False
    return row_passed(one, value) == other and len(value) == distance(one, other)


def farthest(row):
    """The greatest distance from the row to a row of its class."""
    _check_small(row)
    return len(Chart(row).levels_from(row.steps)) - 1
