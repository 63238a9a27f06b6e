"""How many tuples of exchanges have a told deed, and how many of them join all places."""

from math import comb, factorial

from renamedown.base.deeds import are_lengths
from renamedown.base.words import MAX_PLACES, MAX_STEPS, check_number, check_places, is_below
from renamedown.errors import InvalidOperation
from renamedown.rows.webs import handles_from


def is_lengths(value):
    """Whether the value is ring lengths."""
    return are_lengths(value)


def _check_lengths(lengths):
    """Raise InvalidOperation unless the value is ring lengths."""
    if not is_lengths(lengths):
        raise InvalidOperation("these are no ring lengths")


def _lengths_from(least, total):
    """All ring lengths of at least the least one with this sum, ascending."""
    firsts = range(least, total // 2 + 1)
    return [(first,) + rest for first in firsts for rest in _lengths_from(first, total - first)] + [(total,)]


def all_lengths(places):
    """All ring lengths with this sum, ascending."""
    check_places(places)
    return tuple(_lengths_from(1, places))


def _counted(lengths):
    """The pairs of a length and of how many rings have it, ascending."""
    return [(length, lengths.count(length)) for length in sorted(set(lengths))]


def _code_of(counted):
    """The integer in which four bits for each length tell how many rings have it."""
    return sum([many << 4 * length for length, many in counted])


def _lengths_of(code):
    """The ring lengths with a code."""
    lengths, length = (), 1
    while code >> 4 * length > 0:
        lengths = lengths + (length,) * ((code >> 4 * length) & 15)
        length += 1
    return lengths


def _coded_cuts(code, counted):
    """The codes of the ring lengths behind an exchange, each one once, with how many exchanges lead there."""
    cuts = []
    for at, (length, many) in enumerate(counted):
        left = code - (1 << 4 * length)
        # In a ring there are so many pairs of places at each distance, but two halves are met twice.
        for part in range(1, (length + 1) // 2):
            cuts.append((left + (1 << 4 * part) + (1 << 4 * (length - part)), many * length))
        if length % 2 == 0:
            cuts.append((left + (2 << 2 * length), many * length // 2))
        for low, times in counted[:at]:
            cuts.append((left - (1 << 4 * low) + (1 << 4 * (low + length)), low * times * length * many))
        if many > 1:
            cuts.append((left - (1 << 4 * length) + (1 << 8 * length), length * length * comb(many, 2)))
    return cuts


def cuts_of(lengths):
    """The dict from ring lengths to how many exchanges lead there from a deed with the told ones."""
    _check_lengths(lengths)
    counted = _counted(lengths)
    cuts = sorted([(_lengths_of(code), many) for code, many in _coded_cuts(_code_of(counted), counted)])
    return {other: many for other, many in cuts}


def _halves(places):
    """All ring lengths of even deeds, and then all of other deeds, first those that need few exchanges."""
    halves = [[], []]
    for lengths in sorted(_lengths_from(1, places), key=len, reverse=True):
        halves[(places - len(lengths)) % 2].append(lengths)
    return halves


def _tables_of(halves):
    """For each of the ring lengths the indices in the other half behind an exchange, with how many lead there."""
    counted = [[_counted(lengths) for lengths in half] for half in halves]
    coded = [[(_code_of(pairs), pairs) for pairs in half] for half in counted]
    index = {code: at for half in coded for at, (code, _) in enumerate(half)}
    return [[[(index[other], many) for other, many in _coded_cuts(code, pairs)] for code, pairs in half]
            for half in coded]


def _bounds_of(places, half):
    """For each number of exchanges from 0 to that of the places how many of the ring lengths need less of them."""
    needed = [0] * places
    for lengths in half:
        needed[places - len(lengths)] += 1
    return [sum(needed[:least]) for least in range(places + 1)]


def _one_more(numbers, table, first, last):
    """The numbers for one exchange more, from the first index on and below the last one."""
    # The last exchange is taken away from behind the told deed.
    counted = [sum([many * numbers[at] for at, many in row]) for row in table[first:last]]
    return [0] * first + counted + [0] * (len(table) - last)


def _all_numbers(places, low, high, most):
    """The ring lengths of so many places in two halves, and for each number of exchanges the numbers of one half.

    They are told as far as numbers of deeds that need `low` to `high` exchanges depend on them.
    """
    halves = _halves(places)
    tables = _tables_of(halves)
    bounds = [_bounds_of(places, half) for half in halves]
    numbers = [[1] + [0] * (len(halves[0]) - 1)]
    for steps in range(1, most + 1):
        # Deeds that need more exchanges have none yet, and others lie too far off to be of use for the asked ones.
        first = bounds[steps % 2][max(0, low - most + steps)]
        last = bounds[steps % 2][min(steps, high + most - steps, places - 1) + 1]
        numbers.append(_one_more(numbers[-1], tables[steps % 2], first, last))
    return (halves, numbers)


def _numbers_in(places, wanted, reach):
    """The numbers for these ring lengths of so many places."""
    needed = [places - len(rings) for rings in wanted]
    halves, numbers = _all_numbers(places, min(needed), max(needed), max(needed) + 2 * reach)
    found = {}
    for lengths, least in zip(wanted, needed):
        at = halves[least % 2].index(lengths)
        found[lengths] = [part[at] for part in numbers[least:least + 2 * reach + 1:2]]
    return found


def numbers_for(wanted, reach):
    """The dict from these ring lengths to the numbers of tuples that have a told deed with them.

    They are told for as few exchanges as such a deed needs, for two more, and so on, up to `reach` times two more.
    """
    numbers = {}
    for places in sorted(set([sum(rings) for rings in wanted])):
        found = _numbers_in(places, [rings for rings in wanted if sum(rings) == places], reach)
        for lengths, told in found.items():
            numbers[lengths] = told
    return numbers


def _check_steps(steps):
    """Raise InvalidNumber unless a row can have so many steps."""
    check_number(steps, 0, MAX_STEPS)


def count_all(lengths, steps):
    """How many tuples of so many exchanges have a told deed with these ring lengths."""
    _check_lengths(lengths)
    _check_steps(steps)
    spare = steps - (sum(lengths) - len(lengths))
    if spare < 0 or spare % 2 == 1:
        return 0
    return numbers_for([lengths], spare // 2)[lengths][-1]


def _parts_of(lengths):
    """The dict from the lengths of some of the rings to how many choices of rings have them."""
    parts = {(): 1}
    for length in lengths:
        for part, many in list(parts.items()):
            longer = part + (length,)
            parts[longer] = parts.get(longer, 0) + many
    return parts


def _without(lengths, part):
    """The lengths that are left when some of them are taken away."""
    left = list(lengths)
    for length in part:
        left.remove(length)
    return tuple(left)


def lengths_for(root, others):
    """The ring lengths whose numbers `rooted_count` needs."""
    parts = list(_parts_of(others))
    return sorted(set(parts[1:] + [tuple(sorted(root + part)) for part in parts]))


def _least_joining(root, part):
    """The least number of exchanges that join the rings of the root, known to be joined, and these ones."""
    return sum(root) + sum(part) + len(part) - len(root)


def _parted(inner, left, first, least, rings):
    """How many tuples are made of an inner one and of one with so many rings that are left apart.

    The numbers are told for no, one and so on handles: the inner ones for `first` exchanges and more, those of both for
    `least` ones and more.
    """
    return [sum([comb(least + 2 * handles, first + 2 * own) * inner[own] * left[handles + rings - own]
                 for own in range(handles + rings + 1)])
            for handles in range(len(inner) - rings)]


def _joined_numbers(counts, joined, root, part, most):
    """How many tuples join the rings of the root and these ones, for no, one and so on handles up to the most."""
    least = _least_joining(root, part)
    numbers = counts[tuple(sorted(root + part))][len(part):len(part) + most + 1]
    # Otherwise just some of the rings are joined to the root.
    for inner, many in _parts_of(part).items():
        if inner != part:
            left = _without(part, inner)
            parted = _parted(joined[inner], counts[left], _least_joining(root, inner), least, len(left))
            numbers = [number - many * gone for number, gone in zip(numbers, parted)]
    return numbers


def rooted_count(counts, root, others, handles):
    """How many tuples with so many handles join the rings of the root, known to be joined, and all others.

    The counts are those of `numbers_for`, with a reach of the handles and the number of others.
    """
    joined = {}
    for part in sorted(_parts_of(others), key=len):
        # Each ring that is left apart for now can make one handle more of what is joined.
        joined[part] = _joined_numbers(counts, joined, root, part, handles + len(others) - len(part))
    return joined[others][handles]


def _count_with_handles(lengths, handles):
    """How many joined tuples with so many handles have a told deed with these ring lengths."""
    # A root of a length that few rings have leaves the fewest choices of others.
    root = (min(lengths, key=lambda length: lengths.count(length)),)
    others = _without(lengths, root)
    return rooted_count(numbers_for(lengths_for(root, others), handles + len(others)), root, others, handles)


def _joined_count(lengths, steps):
    """How many joined tuples of so many exchanges have a told deed with these ring lengths, where both are right."""
    handles = handles_from(sum(lengths), len(lengths), steps)
    if handles is None:
        return 0
    if handles == 0:
        return _flat_count(lengths)
    return _count_with_one_handle(lengths) if handles == 1 else _count_with_handles(lengths, handles)


def count_joined(lengths, steps):
    """How many tuples of so many exchanges with such a deed join all places to one group."""
    _check_lengths(lengths)
    _check_steps(steps)
    return _joined_count(lengths, steps)


def handles_in(lengths, steps):
    """The handles of a group with these ring lengths and so many steps, or None."""
    _check_lengths(lengths)
    _check_steps(steps)
    return handles_from(sum(lengths), len(lengths), steps)


def power(base, many):
    """The product of so many times the base."""
    product = 1
    for _ in range(many):
        product = product * base
    return product


def _with_rings(above, below, lengths):
    """The quotient of two numbers, times l ** l / (l - 1)! for each ring length l."""
    for length in lengths:
        above = above * power(length, length)
        below = below * factorial(length - 1)
    return above // below


def _flat_count(lengths):
    """The number of `count_flat` for what are known to be ring lengths."""
    places, rings = sum(lengths), len(lengths)
    return _with_rings(factorial(places + rings - 2) * power(places, rings), places ** 3, lengths)


def count_flat(lengths):
    """How many joined tuples of as few exchanges as possible have a told deed with these ring lengths."""
    _check_lengths(lengths)
    return _flat_count(lengths)


def _count_with_one_handle(lengths):
    """How many joined tuples with one handle have a told deed with these ring lengths.

    This is a formula of Goulden and Jackson.
    """
    places, rings = sum(lengths), len(lengths)
    # For each number of rings the sum of the products of the lengths of so many of them.
    products = [1]
    for length in lengths:
        products = [one + length * other for one, other in zip(products + [0], [0] + products)]
    many = power(places, rings) - power(places, rings - 1)
    for chosen in range(2, rings + 1):
        many = many - factorial(chosen - 2) * products[chosen] * power(places, rings - chosen)
    return _with_rings(factorial(places + rings) * many, 24, lengths)


def _is_part(value):
    """Whether the value is a pair of ring lengths and a number of steps."""
    if not isinstance(value, tuple) or len(value) != 2:
        return False
    return is_lengths(value[0]) and is_below(MAX_STEPS + 1, value[1])


def _are_parts(value):
    """Whether the value is a tuple of such pairs with not too many places and steps in all."""
    if not isinstance(value, tuple) or not all([_is_part(part) for part in value]):
        return False
    places = sum([sum(lengths) for lengths, _ in value])
    return places <= MAX_PLACES and sum([steps for _, steps in value]) <= MAX_STEPS


def parted_count(parts):
    """The number of `count_parted` for what are known to be parts."""
    many = factorial(sum([steps for _, steps in parts]))
    for lengths, steps in parts:
        many = many * _joined_count(lengths, steps) // factorial(steps)
    return many


def count_parted(parts):
    """How many tuples of exchanges have a told deed, its rings parted so into groups, with so many steps."""
    if not _are_parts(parts):
        raise InvalidOperation("these are no parts")
    return parted_count(parts)
