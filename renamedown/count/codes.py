"""Codes of the tuples of exchanges that are least for the round deed."""

from math import comb

from renamedown.base.words import check_number, check_places, is_below
from renamedown.count.least import is_least
from renamedown.errors import InvalidOperation, TooMany

MAX_CODES = 7


def _fit_ring(ring, lows):
    """Whether these are the lesser places of a tuple that is least for a ring of ascending places."""
    ranks = sorted([ring.index(low) for low in lows])
    return len(ranks) == len(ring) - 1 and all([rank <= index for index, rank in enumerate(ranks)])


def _are_lows(places, most, value):
    """Whether the value is a tuple of at most so many places."""
    return isinstance(value, tuple) and len(value) <= most and all([is_below(places, low) for low in value])


def is_code(places, value):
    """Whether the value is a code of so many places."""
    check_places(places)
    return _are_lows(places, places - 1, value) and _fit_ring(tuple(range(places)), value)


def _check_code(places, code):
    """Raise InvalidOperation unless the value is a code of so many places."""
    if not is_code(places, code):
        raise InvalidOperation("this is no code of so many places")


def code_of(places, exchanges):
    """The code of a tuple of exchanges that is least for the round deed."""
    check_places(places)
    if not is_least(tuple(range(1, places)) + (0,), exchanges):
        raise InvalidOperation("these exchanges are not least for the round deed")
    return tuple([exchange[0] for exchange in exchanges])


def _parted(ring, low, high):
    """The two rings that are left of a ring of ascending places behind a first exchange."""
    inner = tuple([place for place in ring if low < place <= high])
    return (inner, tuple([place for place in ring if place not in inner]))


def _high_for(ring, low, later):
    """The greater place of a first exchange behind which the later lesser places fit both rings left."""
    for high in ring[ring.index(low) + 1:]:
        parts = _parted(ring, low, high)
        if all([_fit_ring(part, [place for place in later if place in part]) for part in parts]):
            return high
    return None


def exchanges_of(places, code):
    """The tuple with a code that is least for the round deed."""
    _check_code(places, code)
    rings = [tuple(range(places))]
    exchanges = []
    for at, low in enumerate(code):
        ring = [part for part in rings if low in part][0]
        high = _high_for(ring, low, code[at + 1:])
        rings = [other for other in rings if other != ring] + list(_parted(ring, low, high))
        exchanges.append((low, high))
    return tuple(exchanges)


def count_codes(places):
    """How many codes of so many places there are."""
    check_places(places)
    many = 1
    for _ in range(places - 2):
        many = many * places
    return many


def count_behind(places, begin):
    """How many codes of so many places begin so."""
    check_places(places)
    if not _are_lows(places, places - 1, begin):
        raise InvalidOperation("this is no tuple of so few places")
    left = places - 1 - len(begin)
    ways = [1] + [0] * left
    for low in range(places - 1):
        # Of the integers of a code more than `low` are at most `low`.
        needed = low + 1 - len([other for other in begin if other <= low])
        ways = [sum([ways[k] * comb(left - k, many - k) for k in range(many + 1)]) if many >= needed else 0
                for many in range(left + 1)]
    return ways[left]


def code_at(places, index):
    """The code with an index among all, in ascending order."""
    check_number(index, 0, count_codes(places) - 1)
    code, rest = (), index
    for _ in range(places - 1):
        low = 0
        while rest >= count_behind(places, code + (low,)):
            rest = rest - count_behind(places, code + (low,))
            low += 1
        code = code + (low,)
    return code


def index_of(places, code):
    """The index of a code among all, in ascending order."""
    _check_code(places, code)
    begins = [code[:at] + (lesser,) for at, low in enumerate(code) for lesser in range(low)]
    return sum([count_behind(places, begin) for begin in begins])


def _next_code(places, code):
    """The next greater code, or None."""
    for at in range(places - 2, -1, -1):
        grown = code[:at] + (code[at] + 1,) + (0,) * (places - 2 - at)
        if is_code(places, grown):
            return grown
    return None


def each_code(places):
    """All codes of so many places, ascending."""
    check_places(places)
    if places > MAX_CODES:
        raise TooMany(MAX_CODES)
    code = (0,) * (places - 1)
    while code is not None:
        yield code
        code = _next_code(places, code)


def turned_code(places, code):
    """The code of the tuple turned: each place exchanged with its opposite one, the last exchange first."""
    exchanges = exchanges_of(places, code)
    last = places - 1
    return code_of(places, tuple([(last - high, last - low) for low, high in exchanges[::-1]]))
