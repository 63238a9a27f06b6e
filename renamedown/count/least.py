"""Least tuples of exchanges with a deed, and the uncrossed trees that they are."""

from math import factorial

from renamedown.base.deeds import behind, check_deed, deed_of_exchanges, exchange_deed, least_steps, ring_lengths
from renamedown.base.deeds import rings_of, steps_in
from renamedown.base.words import MAX_PLACES, is_below, is_exchange_below, is_owner
from renamedown.errors import InvalidOperation, TooMany
from renamedown.moves.plain import singles_of
from renamedown.rows.rows import Row
from renamedown.rows.webs import groups_joined

MAX_LEAST = 5000
MAX_TREES = 7


def _are_exchanges(places, many, value):
    """Whether the value is a tuple of so many exchanges of so many places."""
    if not isinstance(value, tuple) or len(value) != many:
        return False
    return all([is_exchange_below(places, exchange) for exchange in value])


def are_least(deed, value):
    """Whether the value is a tuple of exchanges that is least for the deed, known to be one."""
    if not _are_exchanges(len(deed), steps_in(deed), value):
        return False
    return deed_of_exchanges(len(deed), value) == deed


def is_least(deed, value):
    """Whether the value is a tuple of exchanges that is least for the deed."""
    check_deed(deed)
    return are_least(deed, value)


def count_least(deed):
    """How many tuples of exchanges are least for the deed."""
    many = factorial(least_steps(deed))
    for length in ring_lengths(deed):
        # A ring of l places has l ** (l - 2) least tuples; those of all rings are mixed in any way.
        many = many // factorial(length - 1)
        for _ in range(length - 2):
            many = many * length
    return many


def _pairs_in(ring):
    """All exchanges of two places of a ring, ascending."""
    return sorted([(a, b) for a in ring for b in ring if a < b])


def _firsts(deed):
    """The exchanges with which least tuples begin, ascending, and the deeds that are left behind them."""
    pairs = sorted([pair for ring in rings_of(deed) for pair in _pairs_in(ring)])
    return [(pair, behind(exchange_deed(len(deed), pair), deed)) for pair in pairs]


def least_tuples(deed):
    """All tuples that are least for the deed, ascending."""
    if count_least(deed) > MAX_LEAST:
        raise TooMany(MAX_LEAST)
    begun = [((), deed)]
    for _ in range(least_steps(deed)):
        begun = [(part + (pair,), left) for part, rest in begun for pair, left in _firsts(rest)]
    return tuple([part for part, _ in begun])


def least_row(deed, owners):
    """A row whose exchanges are least for the deed, with these owners."""
    singles = singles_of(deed)
    if not isinstance(owners, tuple) or len(owners) != len(singles) or not all([is_owner(owner) for owner in owners]):
        raise InvalidOperation("the owners must be a tuple of one letter for each step")
    return Row(len(deed), tuple([single + (owner,) for single, owner in zip(singles, owners)]))


def _check_ring(ring):
    """Raise InvalidOperation unless the value is a ring."""
    if not isinstance(ring, tuple) or not 1 <= len(ring) <= MAX_PLACES:
        raise InvalidOperation("a ring is a tuple of one to twelve places")
    if not all([is_below(MAX_PLACES, place) for place in ring]) or len(set(ring)) < len(ring) or ring[0] != min(ring):
        raise InvalidOperation("a ring has different places, the least one first")


def _do_cross(ring, one, other):
    """Whether two exchanges cross if they are drawn in the circle of the ring."""
    low, high = sorted([ring.index(place) for place in one])
    ends = [ring.index(place) for place in other]
    return any([low < end < high for end in ends]) and any([end < low or end > high for end in ends])


def is_uncrossed(ring, value):
    """Whether the value is an uncrossed tree of the ring."""
    _check_ring(ring)
    if not _are_exchanges(MAX_PLACES, len(ring) - 1, value) or list(value) != sorted(value):
        return False
    if not all([place in ring for exchange in value for place in exchange]):
        return False
    if any([_do_cross(ring, one, other) for one in value for other in value]):
        return False
    # So few exchanges are a tree if each of them joins two groups.
    return len(groups_joined(MAX_PLACES, value)) == MAX_PLACES - len(value)


def _check_tree(ring, tree):
    """Raise InvalidOperation unless these are a ring and an uncrossed tree of it."""
    if not is_uncrossed(ring, tree):
        raise InvalidOperation("this is no uncrossed tree of the ring")


def _turn_from(ring, place, exchange):
    """How far the other place of an exchange is, if one goes on from this place in the ring."""
    other = exchange[0] + exchange[1] - place
    return (ring.index(other) - ring.index(place)) % len(ring)


def _is_ahead(ring, one, other):
    """Whether two exchanges have a rule by which the one is ahead."""
    common = [place for place in one if place in other]
    return len(common) == 1 and _turn_from(ring, common[0], one) < _turn_from(ring, common[0], other)


def rules_of(ring, tree):
    """The pairs of exchanges of the tree of which the first one is ahead of the second one."""
    _check_tree(ring, tree)
    return tuple(sorted([(one, other) for one in tree for other in tree if _is_ahead(ring, one, other)]))


def _longer(tree, crossed):
    """The ascending tuples with one exchange more behind which still are parts of uncrossed trees."""
    groups = groups_joined(MAX_PLACES, tree)
    later = [pair for pair in crossed if tree == () or pair > tree[-1]]
    fitting = [pair for pair in later if not any([pair in crossed[other] for other in tree])]
    return [tree + (pair,) for pair in fitting if not any([pair[0] in group and pair[1] in group for group in groups])]


def uncrossed_trees(ring):
    """All uncrossed trees of the ring, ascending."""
    _check_ring(ring)
    if len(ring) > MAX_TREES:
        raise TooMany(MAX_TREES)
    pairs = _pairs_in(ring)
    crossed = {pair: [other for other in pairs if _do_cross(ring, pair, other)] for pair in pairs}
    trees = [()]
    for _ in range(len(ring) - 1):
        trees = [longer for tree in trees for longer in _longer(tree, crossed)]
    return tuple(trees)


def _ahead_of(ring, tree):
    """For each exchange of the tree the list of the indices of those that are ahead of it."""
    rules = rules_of(ring, tree)
    return [[tree.index(one) for one, other in rules if other == exchange] for exchange in tree]


def _one_more(begun, ahead):
    """The numbers of orders for one exchange more, by the indices of the exchanges that are done."""
    counts = {}
    for done, many in begun.items():
        for at, needed in enumerate(ahead):
            if at not in done and all([other in done for other in needed]):
                grown = tuple(sorted(done + (at,)))
                counts[grown] = counts.get(grown, 0) + many
    return counts


def count_orders(ring, tree):
    """How many tuples with the exchanges of the tree are least for the ring."""
    ahead = _ahead_of(ring, tree)
    begun = {(): 1}
    for _ in tree:
        begun = _one_more(begun, ahead)
    return begun[tuple(range(len(tree)))]


def any_order(ring, tree):
    """A tuple with the exchanges of the tree that is least for the ring."""
    ahead = _ahead_of(ring, tree)
    order = []
    for _ in tree:
        order.append([at for at, needed in enumerate(ahead)
                      if at not in order and all([other in order for other in needed])][0])
    return tuple([tree[at] for at in order])
