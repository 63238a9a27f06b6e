"""Deeds: what takes each thing from its place to a place."""

from math import factorial, lcm

from renamedown.base.words import MAX_PLACES, PLACE_WORDS, check_number, check_places, is_below
from renamedown.base.words import is_exchange, is_integer, is_number_of_places, place_behind
from renamedown.errors import InvalidDeed, InvalidNumber, InvalidOperation, ParseError


def is_deed(value):
    """Whether the value is a deed of 1 to 12 places."""
    if not isinstance(value, tuple) or not 1 <= len(value) <= MAX_PLACES:
        return False
    # Integers alone can be sorted; if anything else is left out, too few of them are left.
    return sorted([place for place in value if type(place) == int or is_integer(place)]) == list(range(len(value)))


def check_deed(deed):
    """Raise InvalidDeed unless the value is a deed."""
    if not is_deed(deed):
        raise InvalidDeed("a deed is a tuple with each place once")


def _check_two(one, other):
    """Raise the errors of two deeds, but not that of unlike numbers of places."""
    check_deed(one)
    check_deed(other)


def _check_alike(one, other):
    """Raise InvalidOperation if two deeds have unlike numbers of places."""
    if len(one) != len(other):
        raise InvalidOperation("the deeds have unlike numbers of places")


def rest_deed(places):
    """The deed that leaves each thing where it lies."""
    check_places(places)
    return tuple(range(places))


def exchange_deed(places, exchange):
    """The deed of an exchange."""
    if not is_exchange(places, exchange):
        raise InvalidOperation("this is no exchange of so many places")
    return tuple([place_behind(place, exchange) for place in range(places)])


def deed_of_exchanges(places, exchanges):
    """The deed of exchanges, known to be such, that are done one after the other."""
    deed = list(range(places))
    # From the last one on: an exchange ahead of a deed exchanges where this takes the things of two places.
    for first, second in exchanges[::-1]:
        deed[first], deed[second] = deed[second], deed[first]
    return tuple(deed)


def ring_from(deed, place):
    """The places through which the thing at this place goes, up to its return."""
    ring = [place]
    later = deed[place]
    while later != place:
        ring.append(later)
        later = deed[later]
    return tuple(ring)


def heads_in(deed):
    """For each place the least place of its ring, where the deed is known to be one."""
    heads = [None] * len(deed)
    for head in range(len(deed)):
        place = head
        while heads[place] is None:
            heads[place] = head
            place = deed[place]
    return heads


def rings_in(deed):
    """The rings of a deed, known to be one, each from its least place on."""
    rings = []
    met = [False] * len(deed)
    for head in range(len(deed)):
        if not met[head]:
            ring = ring_from(deed, head)
            for place in ring:
                met[place] = True
            rings.append(ring)
    return tuple(rings)


def steps_in(deed):
    """The least number of exchanges that do a deed, known to be one."""
    return len(deed) - len(set(heads_in(deed)))


def rings_of(deed):
    """The rings of a deed, each one from its least place on."""
    check_deed(deed)
    return rings_in(deed)


def ring_lengths(deed):
    """The lengths of the rings, the lesser ones first."""
    return tuple(sorted([len(ring) for ring in rings_of(deed)]))


def _are_rings(places, rings):
    """Whether the value is a tuple of tuples of places, none of them empty, no place twice."""
    if not isinstance(rings, tuple) or not all([isinstance(ring, tuple) and len(ring) > 0 for ring in rings]):
        return False
    stops = [place for ring in rings for place in ring]
    return all([is_below(places, place) for place in stops]) and len(set(stops)) == len(stops)


def deed_of_rings(places, rings):
    """The deed of so many places with these rings; all other places are at rest."""
    check_places(places)
    if not _are_rings(places, rings):
        raise InvalidOperation("these are no rings of so many places")
    deed = list(range(places))
    for ring in rings:
        for at, place in enumerate(ring):
            deed[place] = ring[(at + 1) % len(ring)]
    return tuple(deed)


def behind(one, other):
    """The deed that does the one deed and then the other one."""
    _check_two(one, other)
    _check_alike(one, other)
    return tuple([other[place] for place in one])


def back_of(deed):
    """The deed that takes all things back."""
    check_deed(deed)
    return tuple([deed.index(place) for place in range(len(deed))])


def power_of(deed, exponent):
    """The deed done so often; for a negative exponent, its back."""
    check_deed(deed)
    if not is_integer(exponent):
        raise InvalidNumber(exponent)
    power = list(deed)
    for ring in rings_of(deed):
        for at, place in enumerate(ring):
            power[place] = ring[(at + exponent) % len(ring)]
    return tuple(power)


def order_of(deed):
    """The least number of at least 1 of times after which all things lie where they lay."""
    order = 1
    for length in ring_lengths(deed):
        order = lcm(order, length)
    return order


def least_steps(deed):
    """The least number of exchanges that do the deed."""
    check_deed(deed)
    return steps_in(deed)


def is_even(value):
    """Whether the value is a deed for which the least number of exchanges is even."""
    return is_deed(value) and steps_in(value) % 2 == 0


def renamed_deed(deed, names):
    """The deed, with each place x renamed to names[x]."""
    _check_two(deed, names)
    _check_alike(deed, names)
    renamed = list(deed)
    for place in range(len(deed)):
        renamed[names[place]] = names[deed[place]]
    return tuple(renamed)


def any_names(one, other):
    """Names that make the one deed the other one, or None."""
    _check_two(one, other)
    _check_alike(one, other)
    if ring_lengths(one) != ring_lengths(other):
        return None
    names = list(one)
    for ring, target in zip(sorted(rings_of(one), key=len), sorted(rings_of(other), key=len)):
        for place, name in zip(ring, target):
            names[place] = name
    return tuple(names)


def are_lengths(value):
    """Whether the value can be the ring lengths of a deed."""
    if not isinstance(value, tuple) or not all([is_integer(length) and length >= 1 for length in value]):
        return False
    return list(value) == sorted(value) and is_number_of_places(sum(value))


def count_turns(lengths):
    """In how many ways the rings of a deed with these ring lengths can be put onto one another."""
    # Each ring can begin at each of its places, and rings of one length can stand in any order.
    many = 1
    for length in lengths:
        many = many * length
    for length in sorted(set(lengths)):
        many = many * factorial(lengths.count(length))
    return many


def count_deeds(lengths):
    """How many deeds have these ring lengths."""
    if not are_lengths(lengths):
        raise InvalidOperation("these are no ring lengths")
    return factorial(sum(lengths)) // count_turns(lengths)


def deed_at(places, index):
    """The deed with this index among all deeds of so many places, in ascending order."""
    check_places(places)
    check_number(index, 0, factorial(places) - 1)
    left = list(range(places))
    deed = []
    rest = index
    for many in range(places - 1, -1, -1):
        at, rest = divmod(rest, factorial(many))
        deed.append(left.pop(at))
    return tuple(deed)


def index_of(deed):
    """The index of a deed among all deeds of as many places, in ascending order."""
    check_deed(deed)
    index = 0
    for at, place in enumerate(deed):
        lesser = len([later for later in deed[at:] if later < place])
        index = index + lesser * factorial(len(deed) - 1 - at)
    return index


def write_deed(deed):
    """The text of a deed, like `(0 2 1)(3)`."""
    rings = [" ".join([str(place) for place in ring]) for ring in rings_of(deed)]
    return "(" + ")(".join(rings) + ")"


def read_deed(text):
    """The deed with a text."""
    if not isinstance(text, str):
        raise ParseError(None)
    parts = [part.split(" ") for part in text[1:-1].split(")(")]
    words = [word for part in parts for word in part]
    if sorted(words) != sorted(PLACE_WORDS[:len(words)]):
        raise ParseError(None)
    rings = tuple([tuple([PLACE_WORDS.index(word) for word in part]) for part in parts])
    deed = deed_of_rings(len(words), rings)
    # A deed has just one text, so rings in another order or other brackets are no text of it.
    if write_deed(deed) != text:
        raise ParseError(None)
    return deed
