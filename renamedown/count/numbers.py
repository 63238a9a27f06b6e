"""How many tuples of exchanges have a told deed, and how many of them join all places."""

from math import comb, factorial

from renamedown.base.deeds import are_lengths
from renamedown.base.words import MAX_PLACES, MAX_STEPS, check_number, check_places, is_below
from renamedown.errors import InvalidOperation
from renamedown.rows.webs import handles_from


def is_lengths(value):
    """Whether the value is ring lengths."""
    return are_lengths(value)


def _check_lengths(lengths):
    """Raise InvalidOperation unless the value is ring lengths."""
    if not is_lengths(lengths):
        raise InvalidOperation("these are no ring lengths")


def _lengths_from(least, total):
    """All ring lengths of at least the least one with this sum, ascending."""
    firsts = range(least, total // 2 + 1)
    return [(first,) + rest for first in firsts for rest in _lengths_from(first, total - first)] + [(total,)]


def all_lengths(places):
    """All ring lengths with this sum, ascending."""
    check_places(places)
    return tuple(_lengths_from(1, places))


def _cuts_in(lengths):
    """The ring lengths behind an exchange of two places of one ring, with how many exchanges lead there."""
    found = []
    for at, length in enumerate(lengths):
        rest = lengths[:at] + lengths[at + 1:]
        for part in range(1, length // 2 + 1):
            # There are so many pairs of places at this distance, but two halves are met twice.
            many = length // 2 if 2 * part == length else length
            found.append((tuple(sorted(rest + (part, length - part))), many))
    return found


def _cuts_across(lengths):
    """The ring lengths behind an exchange of places of two rings, with how many exchanges lead there."""
    found = []
    for high, length in enumerate(lengths):
        for low in range(high):
            rest = lengths[:low] + lengths[low + 1:high] + lengths[high + 1:]
            found.append((tuple(sorted(rest + (lengths[low] + length,))), lengths[low] * length))
    return found


def cuts_of(lengths):
    """The dict from ring lengths to how many exchanges lead there from a deed with the told ones."""
    _check_lengths(lengths)
    cuts = {}
    for other, many in sorted(_cuts_in(lengths) + _cuts_across(lengths)):
        cuts[other] = cuts.get(other, 0) + many
    return cuts


def _counts_of(places, most):
    """The dict from ring lengths to the numbers of tuples of no, one, two and so on exchanges."""
    cuts = {lengths: cuts_of(lengths) for lengths in all_lengths(places)}
    counts = {lengths: [0] for lengths in cuts}
    counts[(1,) * places] = [1]
    for last in range(most):
        for lengths, ways in cuts.items():
            # The last exchange is taken away from behind the told deed.
            counts[lengths].append(sum([many * counts[other][last] for other, many in ways.items()]))
    return counts


def counts_to(places, most):
    """The numbers of tuples of at most so many exchanges, for all ring lengths of at most so many places."""
    counts = {}
    for many in range(1, places + 1):
        counts.update(_counts_of(many, most))
    return counts


def _check_steps(steps):
    """Raise InvalidNumber unless a row can have so many steps."""
    check_number(steps, 0, MAX_STEPS)


def count_all(lengths, steps):
    """How many tuples of so many exchanges have a told deed with these ring lengths."""
    _check_lengths(lengths)
    _check_steps(steps)
    return _counts_of(sum(lengths), steps)[lengths][steps]


def _parts_of(lengths):
    """The dict from the lengths of some of the rings to how many choices of rings have them."""
    parts = {(): 1}
    for length in lengths:
        for part, many in list(parts.items()):
            longer = part + (length,)
            parts[longer] = parts.get(longer, 0) + many
    return parts


def _without(lengths, part):
    """The lengths that are left when some of them are taken away."""
    left = list(lengths)
    for length in part:
        left.remove(length)
    return tuple(left)


def _mixed(one, other):
    """How many tuples are made of one that the first numbers count and one that the others count."""
    many = len(one)
    return [sum([comb(k, j) * one[j] * other[k - j] for j in range(k + 1)]) for k in range(many)]


def rooted_counts(counts, root, others):
    """How many of the counted tuples join the rings of the root, known to be joined, and all others.

    The numbers are told for tuples of no, one, two and so on exchanges; counts are those of all tuples.
    """
    joined = {}
    for part in sorted(_parts_of(others), key=len):
        numbers = list(counts[tuple(sorted(root + part))])
        # Otherwise just some of the rings are joined to the root.
        for inner, many in _parts_of(part).items():
            if inner != part:
                parted = _mixed(joined[inner], counts[_without(part, inner)])
                numbers = [number - many * gone for number, gone in zip(numbers, parted)]
        joined[part] = numbers
    return joined[others]


def count_joined(lengths, steps):
    """How many tuples of so many exchanges with such a deed join all places to one group."""
    _check_lengths(lengths)
    _check_steps(steps)
    return rooted_counts(counts_to(sum(lengths), steps), lengths[:1], lengths[1:])[steps]


def handles_in(lengths, steps):
    """The handles of a group with these ring lengths and so many steps, or None."""
    _check_lengths(lengths)
    _check_steps(steps)
    return handles_from(sum(lengths), len(lengths), steps)


def power(base, many):
    """The product of so many times the base."""
    product = 1
    for _ in range(many):
        product = product * base
    return product


def count_flat(lengths):
    """How many joined tuples of as few exchanges as possible have a told deed with these ring lengths."""
    _check_lengths(lengths)
    places, rings = sum(lengths), len(lengths)
    above = factorial(places + rings - 2) * power(places, rings)
    below = places ** 3
    for length in lengths:
        above = above * power(length, length)
        below = below * factorial(length - 1)
    return above // below


def _is_part(value):
    """Whether the value is a pair of ring lengths and a number of steps."""
    if not isinstance(value, tuple) or len(value) != 2:
        return False
    return is_lengths(value[0]) and is_below(MAX_STEPS + 1, value[1])


def _are_parts(value):
    """Whether the value is a tuple of such pairs with not too many places and steps in all."""
    if not isinstance(value, tuple) or not all([_is_part(part) for part in value]):
        return False
    places = sum([sum(lengths) for lengths, _ in value])
    return places <= MAX_PLACES and sum([steps for _, steps in value]) <= MAX_STEPS


def count_parted(parts):
    """How many tuples of exchanges have a told deed, its rings parted so into groups, with so many steps."""
    if not _are_parts(parts):
        raise InvalidOperation("these are no parts")
    many = factorial(sum([steps for _, steps in parts]))
    for lengths, steps in parts:
        many = many * count_joined(lengths, steps) // factorial(steps)
    return many
