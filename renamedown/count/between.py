"""Deeds that lie in a deed: those of the first exchanges of tuples that are least for it."""

from math import comb

from renamedown.base.deeds import back_of, behind, check_deed, deed_of_exchanges, least_steps, ring_lengths, rings_of
from renamedown.base.words import is_below
from renamedown.count.least import is_least
from renamedown.errors import InvalidOperation, TooMany
from renamedown.moves.plain import singles_of

MAX_WITHIN = 5000


def rest_of(inner, whole):
    """The deed that makes the whole if it is done behind the inner one."""
    return behind(back_of(inner), whole)


def lies_in(inner, whole):
    """Whether the least numbers of exchanges of the inner deed and of the rest make that of the whole."""
    rest = rest_of(inner, whole)
    return least_steps(inner) + least_steps(rest) == least_steps(whole)


def _check_two(inner, whole):
    """Raise InvalidDeed unless both are deeds, InvalidOperation for unlike numbers of places."""
    check_deed(inner)
    check_deed(whole)
    if len(inner) != len(whole):
        raise InvalidOperation("the deeds have unlike numbers of places")


def _own_rings(deed):
    """The dict from the places to their rings."""
    return {place: ring for ring in rings_of(deed) for place in ring}


def _distances(ring, places):
    """How far the other ones of these places of the ring are, if one goes round from the first one."""
    start = ring.index(places[0])
    return [(ring.index(place) - start) % len(ring) for place in places[1:]]


def _are_apart(inner, whole, places):
    """Whether two places are in one ring of the inner deed, but not in one of the whole."""
    first, second = places
    return first < second and second in inner[first] and second not in whole[first]


def _go_otherwise(inner, whole, places):
    """Whether three places of a ring of both come in another order in the inner deed than in the whole."""
    if not all([rings[places[0]] == rings[place] for rings in (inner, whole) for place in places]):
        return False
    ahead, later = _distances(inner[places[0]], places)
    other_ahead, other_later = _distances(whole[places[0]], places)
    return 0 < ahead < later and 0 < other_later < other_ahead


def _do_cross(inner, whole, places):
    """Whether four places come so in a ring of the whole, and by turns in two rings of the inner deed."""
    if not all([whole[places[0]] == whole[place] for place in places]):
        return False
    first, second, third = _distances(whole[places[0]], places)
    one, other = inner[places[0]], inner[places[1]]
    return 0 < first < second < third and one != other and inner[places[2]] == one and inner[places[3]] == other


def is_apartness(inner, whole, value):
    """Whether the value is a reason why the inner deed does not lie in the whole."""
    _check_two(inner, whole)
    if not isinstance(value, tuple) or not all([is_below(len(whole), place) for place in value[1:]]):
        return False
    rings, wider, places = _own_rings(inner), _own_rings(whole), value[1:]
    if value[:1] == ("apart",):
        return len(places) == 2 and _are_apart(rings, wider, places)
    if value[:1] == ("round",):
        return len(places) == 3 and _go_otherwise(rings, wider, places)
    return value[:1] == ("cross",) and len(places) == 4 and _do_cross(rings, wider, places)


def _apart_reasons(inner, whole):
    """Reasons with two places of a ring of the inner deed that are in two of the whole."""
    wider = _own_rings(whole)
    return [("apart", ring[0], place) for ring in rings_of(inner) for place in ring if place not in wider[ring[0]]]


def _round_reasons(inner, whole):
    """Reasons with three places, if each ring of the inner deed lies in one of the whole."""
    wider = _own_rings(whole)
    reasons = []
    for ring in rings_of(inner):
        far = _distances(wider[ring[0]], ring)
        falls = [at for at in range(len(far) - 1) if far[at] > far[at + 1]]
        reasons.extend([("round", ring[0], ring[at + 1], ring[at + 2]) for at in falls])
    return reasons


def _cross_reasons(inner, whole):
    """All reasons with four places."""
    rings = _own_rings(inner)
    reasons = []
    for ring in rings_of(whole):
        own = [rings[place][0] for place in ring]
        reasons.extend([("cross", ring[first], ring[second], ring[third], ring[fourth])
                        for third in range(len(ring)) for first in range(third) if own[first] == own[third]
                        for second in range(first + 1, third) if own[second] != own[first]
                        for fourth in range(third + 1, len(ring)) if own[fourth] == own[second]])
    return reasons


def any_apartness(inner, whole):
    """A reason why the inner deed does not lie in the whole, or None."""
    _check_two(inner, whole)
    reasons = _apart_reasons(inner, whole)
    if reasons == []:
        reasons = _round_reasons(inner, whole) + _cross_reasons(inner, whole)
    return reasons[0] if reasons != [] else None


def between_paper(inner, whole):
    """A least tuple for the whole that begins with the inner deed, or a reason, with a word that says which."""
    reason = any_apartness(inner, whole)
    if reason is not None:
        return ("reason", reason)
    return ("way", singles_of(inner) + singles_of(rest_of(inner, whole)))


def is_between_paper(inner, whole, value):
    """Whether the value is a between paper."""
    _check_two(inner, whole)
    if not isinstance(value, tuple) or len(value) != 2:
        return False
    if value[0] == "way":
        return is_least(whole, value[1]) and deed_of_exchanges(len(inner), value[1][:least_steps(inner)]) == inner
    return value[0] == "reason" and is_apartness(inner, whole, value[1])


def count_within(whole):
    """How many deeds lie in the whole."""
    return sum(count_by_steps(whole))


def count_by_steps(whole):
    """How many deeds lie in the whole, for each least number of exchanges."""
    counts = [1]
    for length in ring_lengths(whole):
        own = [comb(length, rest) * comb(length, rest + 1) // length for rest in range(length)]
        many = len(counts) + length - 1
        counts = [sum([counts[at] * own[steps - at] for at in range(len(counts)) if 0 <= steps - at < length])
                  for steps in range(many)]
    return tuple(counts)


def _grown(inner, rest):
    """The targets in a ring of one place, the inner places, and the rest, whose first ring the one place joins."""
    at = len(inner) + 1
    first = at if len(rest) > 0 else 0
    later = [at + target if target > 0 else 0 for target in rest]
    return tuple([first] + [1 + target for target in inner] + later)


def _targets(longest):
    """For each length up to the longest one where the deeds that lie in a ring take its places, told by indices."""
    targets = [[()]]
    for length in range(1, longest + 1):
        # The first place goes to itself, or to the first place of the rest.
        grown = [_grown(inner, rest) for at in range(length)
                 for inner in targets[at] for rest in targets[length - 1 - at]]
        targets.append(grown)
    return targets


def _with_ring(deed, ring, targets):
    """The deed with other targets in a ring, told by indices."""
    changed = list(deed)
    for place, target in zip(ring, targets):
        changed[place] = ring[target]
    return tuple(changed)


def deeds_within(whole):
    """All deeds that lie in the whole, ascending."""
    if count_within(whole) > MAX_WITHIN:
        raise TooMany(MAX_WITHIN)
    rings = rings_of(whole)
    targets = _targets(max([len(part) for part in rings]))
    deeds = [whole]
    for ring in rings:
        deeds = [_with_ring(deed, ring, part) for deed in deeds for part in targets[len(ring)]]
    return tuple(sorted(deeds))
