"""Integers, owners, places, exchanges and steps."""

from renamedown.errors import InvalidNumber, InvalidOperation

MAX_PLACES = 12
MAX_STEPS = 24
MAX_FIGURES = 200

# The least integer with more than MAX_FIGURES digits.
_TOO_LONG = (10 ** 50) ** 4

PLACE_WORDS = ("0", "1", "2", "3", "4", "5", "6", "7", "8", "9", "10", "11")


def is_integer(value):
    """Whether the value is an integer that is not too long."""
    return isinstance(value, int) and not isinstance(value, bool) and -_TOO_LONG < value < _TOO_LONG


def is_count(value):
    """Whether the value is such an integer of at least 0."""
    return is_integer(value) and value >= 0


def is_owner(value):
    """Whether the value is one letter from a to z."""
    return isinstance(value, str) and len(value) == 1 and "a" <= value <= "z"


def is_number_of_places(value):
    """Whether a row can have so many places."""
    return is_integer(value) and 1 <= value <= MAX_PLACES


def is_below(limit, value):
    """Whether the value is an integer of at least 0 below the limit, as places and indices are."""
    return isinstance(value, int) and not isinstance(value, bool) and 0 <= value < limit


def check_number(value, least, most):
    """Raise InvalidNumber unless the value is an integer from the least to the most one."""
    if not is_integer(value) or value < least or value > most:
        raise InvalidNumber(value)


def check_places(places):
    """Raise InvalidNumber unless a row can have so many places."""
    check_number(places, 1, MAX_PLACES)


def is_exchange_below(limit, value):
    """Whether the value is an exchange of places below the limit."""
    if not isinstance(value, tuple) or len(value) != 2:
        return False
    first, second = value
    if isinstance(first, bool) or isinstance(second, bool):
        return False
    return isinstance(first, int) and isinstance(second, int) and 0 <= first < second < limit


def is_exchange(places, value):
    """Whether the value is an exchange of so many places."""
    check_places(places)
    return is_exchange_below(places, value)


def is_step(places, value):
    """Whether the value is a step of so many places."""
    check_places(places)
    if not isinstance(value, tuple) or len(value) != 3:
        return False
    return is_exchange(places, value[:2]) and is_owner(value[2])


def holds_boolean(value):
    """Whether the value is True or False, or a tuple that has one of them in it somewhere."""
    if isinstance(value, tuple):
        return any([holds_boolean(part) for part in value])
    return isinstance(value, bool)


def is_among(choices, value):
    """Whether the value is one of these integers, strings and tuples of such; True is not 1."""
    return not holds_boolean(value) and value in choices


def place_behind(place, exchange):
    """The place where an exchange puts the thing that lies at this place."""
    if place == exchange[0]:
        return exchange[1]
    if place == exchange[1]:
        return exchange[0]
    return place


def exchange_behind(one, other):
    """The one exchange, renamed by the other one, where both are known to be exchanges."""
    first, second = place_behind(one[0], other), place_behind(one[1], other)
    return (first, second) if first < second else (second, first)


def renamed_exchange(one, other):
    """The one exchange, renamed by the other one."""
    if not is_exchange(MAX_PLACES, one) or not is_exchange(MAX_PLACES, other):
        raise InvalidOperation("both must be exchanges of twelve places")
    return exchange_behind(one, other)


def owners_counted(letters):
    """The dict from the owners among these letters to how often each one is there."""
    return {owner: letters.count(owner) for owner in sorted(set(letters))}
