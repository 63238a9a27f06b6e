"""Deeds that lie in a deed: those of the first exchanges of tuples that are least for it."""

from math import comb

from renamedown.base.deeds import check_deed, deed_of_exchanges, heads_in, ring_from, ring_lengths, rings_in
from renamedown.base.deeds import rings_of, steps_in
from renamedown.base.words import is_below
from renamedown.count.least import are_least
from renamedown.errors import InvalidOperation, TooMany
from renamedown.moves.plain import singles_in

MAX_WITHIN = 5000


def _check_two(inner, whole):
    """Raise InvalidDeed unless both are deeds, InvalidOperation for unlike numbers of places."""
    check_deed(inner)
    check_deed(whole)
    if len(inner) != len(whole):
        raise InvalidOperation("the deeds have unlike numbers of places")


def rest_behind(inner, whole):
    """The rest, where both are known to be deeds of as many places."""
    rest = list(whole)
    for place, target in zip(inner, whole):
        rest[place] = target
    return tuple(rest)


def lies_within(inner, whole):
    """Whether the inner deed lies in the whole, where both are known to be deeds of as many places."""
    return steps_in(inner) + steps_in(rest_behind(inner, whole)) == steps_in(whole)


def rest_of(inner, whole):
    """The deed that makes the whole if it is done behind the inner one."""
    _check_two(inner, whole)
    return rest_behind(inner, whole)


def lies_in(inner, whole):
    """Whether the least numbers of exchanges of the inner deed and of the rest make that of the whole."""
    _check_two(inner, whole)
    return lies_within(inner, whole)


def _are_apart(inner, whole, first, second):
    """Whether two places are in one ring of the inner deed, but not in one of the whole."""
    return first < second and second in ring_from(inner, first) and second not in ring_from(whole, first)


def _go_otherwise(inner, whole, places):
    """Whether three places of a ring of both come in another order in the inner deed than in the whole."""
    ring, wider = ring_from(inner, places[0]), ring_from(whole, places[0])
    if not all([place in ring and place in wider for place in places]):
        return False
    _, ahead, later = places
    # Both rings begin with the first place, so equal places can not come in two orders.
    return ring.index(ahead) < ring.index(later) and wider.index(later) < wider.index(ahead)


def _do_cross(inner, whole, places):
    """Whether four places come so in a ring of the whole, and by turns in two rings of the inner deed."""
    wider = ring_from(whole, places[0])
    if not all([place in wider for place in places]):
        return False
    first, second, third, fourth = places
    if not wider.index(second) < wider.index(third) < wider.index(fourth):
        return False
    ring = ring_from(inner, first)
    return third in ring and second not in ring and fourth in ring_from(inner, second)


def _is_reason(inner, whole, value):
    """Whether the value is a reason, where both are known to be deeds of as many places."""
    if not isinstance(value, tuple) or not all([is_below(len(whole), place) for place in value[1:]]):
        return False
    places = value[1:]
    if value[:1] == ("apart",):
        return len(places) == 2 and _are_apart(inner, whole, places[0], places[1])
    if value[:1] == ("round",):
        return len(places) == 3 and _go_otherwise(inner, whole, places)
    return value[:1] == ("cross",) and len(places) == 4 and _do_cross(inner, whole, places)


def is_apartness(inner, whole, value):
    """Whether the value is a reason why the inner deed does not lie in the whole."""
    _check_two(inner, whole)
    return _is_reason(inner, whole, value)


def _apart_reason(rings, heads):
    """A reason with two places of a ring of the inner deed that have two heads in the whole, or None."""
    for ring in rings:
        for place in ring:
            if heads[place] != heads[ring[0]]:
                return ("apart", ring[0], place)
    return None


def _round_reason(rings, whole):
    """A reason with three places, or None, if each ring of the inner deed lies in one of the whole."""
    for ring in [part for part in rings if len(part) > 2]:
        wider = ring_from(whole, ring[0])
        far = [wider.index(place) for place in ring]
        for at in range(1, len(far) - 1):
            if far[at] > far[at + 1]:
                return ("round", ring[0], ring[at], ring[at + 1])
    return None


def _crossing(own):
    """Indices of four labels, of which just the first and the third and the two others are equal, or None."""
    # The labels that have been met and will be met again.
    begun = []
    for third, label in enumerate(own):
        if label not in begun:
            begun.append(label)
        elif label != begun[-1]:
            other = begun[begun.index(label) + 1]
            return (own.index(label), own.index(other), third, own.index(other, third))
        if label not in own[third + 1:]:
            begun.pop()
    return None


def _cross_reason(inner, whole):
    """A reason with four places, or None."""
    heads = heads_in(inner)
    for ring in rings_in(whole):
        found = _crossing([heads[place] for place in ring])
        if found is not None:
            return ("cross",) + tuple([ring[at] for at in found])
    return None


def any_apartness(inner, whole):
    """A reason why the inner deed does not lie in the whole, or None."""
    _check_two(inner, whole)
    rings = rings_in(inner)
    reason = _apart_reason(rings, heads_in(whole))
    if reason is None:
        reason = _round_reason(rings, whole)
    if reason is None:
        reason = _cross_reason(inner, whole)
    return reason


def between_paper(inner, whole):
    """A least tuple for the whole that begins with the inner deed, or a reason, with a word that says which."""
    reason = any_apartness(inner, whole)
    if reason is not None:
        return ("reason", reason)
    return ("way", singles_in(inner) + singles_in(rest_behind(inner, whole)))


def is_between_paper(inner, whole, value):
    """Whether the value is a between paper."""
    _check_two(inner, whole)
    if not isinstance(value, tuple) or len(value) != 2:
        return False
    if value[0] == "way":
        return are_least(whole, value[1]) and deed_of_exchanges(len(inner), value[1][:steps_in(inner)]) == inner
    return value[0] == "reason" and _is_reason(inner, whole, value[1])


def count_within(whole):
    """How many deeds lie in the whole."""
    return sum(count_by_steps(whole))


def count_by_steps(whole):
    """How many deeds lie in the whole, for each least number of exchanges."""
    counts = [1]
    for length in ring_lengths(whole):
        own = [comb(length, rest) * comb(length, rest + 1) // length for rest in range(length)]
        many = len(counts) + length - 1
        counts = [sum([counts[at] * own[steps - at] for at in range(len(counts)) if 0 <= steps - at < length])
                  for steps in range(many)]
    return tuple(counts)


def _grown(inner, rest):
    """The targets in a ring of one place, the inner places, and the rest, whose first ring the one place joins."""
    at = len(inner) + 1
    first = at if len(rest) > 0 else 0
    later = [at + target if target > 0 else 0 for target in rest]
    return tuple([first] + [1 + target for target in inner] + later)


def _targets(longest):
    """For each length up to the longest one where the deeds that lie in a ring take its places, told by indices."""
    targets = [[()]]
    for length in range(1, longest + 1):
        # The first place goes to itself, or to the first place of the rest.
        grown = [_grown(inner, rest) for at in range(length)
                 for inner in targets[at] for rest in targets[length - 1 - at]]
        targets.append(grown)
    return targets


def _with_ring(deed, ring, targets):
    """The deed with other targets in a ring, told by indices."""
    changed = list(deed)
    for place, target in zip(ring, targets):
        changed[place] = ring[target]
    return tuple(changed)


def deeds_within(whole):
    """All deeds that lie in the whole, ascending."""
    if count_within(whole) > MAX_WITHIN:
        raise TooMany(MAX_WITHIN)
    rings = rings_of(whole)
    targets = _targets(max([len(part) for part in rings]))
    deeds = [whole]
    for ring in rings:
        deeds = [_with_ring(deed, ring, part) for deed in deeds for part in targets[len(ring)]]
    return tuple(sorted(deeds))
