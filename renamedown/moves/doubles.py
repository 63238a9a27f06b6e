"""How the steps of a group become doubles and, behind them, the singles of the deed."""

from renamedown.base.words import exchange_behind


def _lead_up(trail, place, low, high):
    """Lead all steps with a place, from low on and below high, to the front; return how many."""
    many = 0
    for index in range(low, high):
        if place in trail.exchange_at(index):
            # No step ahead has the place, so it stays in the step that they rename.
            trail.lead(index, low + many, True)
            many += 1
    return many


def _unequal_at(trail, low, high):
    """The last index below high - 1 where a step and the next one have unlike exchanges, or None."""
    for index in range(high - 2, low - 1, -1):
        if trail.exchange_at(index) != trail.exchange_at(index + 1):
            return index
    return None


def _make_equal(trail, place, low, high):
    """Make equal exchanges of all steps with a place, and lead them to the front; return how many."""
    many = _lead_up(trail, place, low, high)
    index = _unequal_at(trail, low, low + many)
    while index is not None:
        # The step that is renamed here by the other one loses the place.
        trail.make(index, "on")
        many = _lead_up(trail, place, low, high)
        index = _unequal_at(trail, low, low + many)
    return many


def pair_up(trail, group, low, high):
    """Make doubles and then the singles of the steps of a group; return the index behind the doubles."""
    paired, begin = low, low
    for place in group:
        many = _make_equal(trail, place, begin, high)
        # What is left over of an odd number is the single that brings its thing to the place.
        for _ in range(many // 2):
            trail.lead_double(begin, paired)
            paired += 2
            begin += 2
        begin += many % 2
    return paired


def _names_between(exchange, target, names):
    """The least tuple of names that rename the exchange, one after the other, to the target, or None."""
    found = {exchange: ()}
    level = [exchange]
    while level != [] and target not in found:
        following = []
        for one in list(level):
            for name in names:
                other = exchange_behind(one, name)
                if other not in found:
                    found[other] = found[one] + (name,)
                    following.append(other)
        level = following
    return found.get(target)


def _names_for(trail, at, target, low, high):
    """The names among the other steps that rename the double at an index to the target, or None."""
    others = trail.now[low:at] + trail.now[at + 2:high]
    return _names_between(trail.exchange_at(at), target, sorted(set([step[:2] for step in others])))


def _nearest(trail, at, name, low, high):
    """The index of the nearest step with the exchange `name` that is none of the double at an index."""
    others = [other for other in range(low, high) if trail.exchange_at(other) == name]
    return min([(abs(other - at), other) for other in others if other not in (at, at + 1)])[1]


def set_doubles(trail, targets, low, high):
    """Give the doubles from low on the exchanges of the targets, in their order."""
    end = low + 2 * len(targets)
    for slot, target in zip(range(low, end, 2), targets):
        routes = [(_names_for(trail, double, target, low, high), double) for double in range(slot, end, 2)]
        # Some double comes to the target: one without which all stays joined, or else one without
        # which the two places of the target are parted.
        _, at, names = min([(len(route), double, route) for route, double in routes if route is not None])
        for name in names:
            at = trail.rename_double(at, _nearest(trail, at, name, low, high))
        trail.lead_double(at, slot)
