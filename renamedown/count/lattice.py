"""The lattice of the deeds that lie in a deed: meets, joins, mates, rises and balances."""

from math import comb

from renamedown.base.deeds import check_deed, deed_of_exchanges, heads_in, is_deed, least_steps, ring_lengths
from renamedown.base.deeds import rings_in, rings_of
from renamedown.base.words import check_number
from renamedown.count.between import deeds_within, lies_within, rest_behind, rest_of
from renamedown.count.least import is_least
from renamedown.errors import InvalidOperation, TooMany

MAX_RISES = 5000
MAX_LENGTH = 20


def _check_within(whole, deeds):
    """Raise InvalidDeed unless all are deeds, InvalidOperation unless these lie in the whole."""
    check_deed(whole)
    for deed in deeds:
        check_deed(deed)
    for inner in deeds:
        if len(inner) != len(whole) or not lies_within(inner, whole):
            raise InvalidOperation("a deed does not lie in the whole")


def _met(one, other):
    """The deed whose rings have the places that are in one ring of both deeds, which lie in one whole."""
    heads = heads_in(other)
    deed = list(range(len(one)))
    for ring in rings_in(one):
        last = {}
        for place in ring:
            head = heads[place]
            if head in last:
                # The place is put into the ring of the last one, behind it.
                deed[place], deed[last[head]] = deed[last[head]], place
            last[head] = place
    return tuple(deed)


def _rest_ahead(whole, inner):
    """The deed that makes the whole if the inner one, known to be a deed, is done behind it."""
    return tuple([inner.index(place) for place in whole])


def meet(whole, one, other):
    """The greatest deed that lies in both."""
    _check_within(whole, (one, other))
    return _met(one, other)


def join(whole, one, other):
    """The least deed in the whole in which both lie."""
    _check_within(whole, (one, other))
    # Mates exchange meets and joins, so this is the mate ahead of the meet of the mates behind.
    return _rest_ahead(whole, _met(rest_behind(one, whole), rest_behind(other, whole)))


def mate_behind(whole, inner):
    """The deed that makes the whole if it is done behind the inner one."""
    _check_within(whole, (inner,))
    return rest_behind(inner, whole)


def mate_ahead(whole, inner):
    """The deed that makes the whole if the inner one is done behind it."""
    _check_within(whole, (inner,))
    return _rest_ahead(whole, inner)


def is_rise(whole, value):
    """Whether the value is a tuple of deeds that lie in the whole, each one in the next one."""
    check_deed(whole)
    if not isinstance(value, tuple) or len(value) > MAX_LENGTH:
        return False
    if not all([is_deed(deed) and len(deed) == len(whole) for deed in value]):
        return False
    # What lies in a deed lies in all in which that one lies.
    return all([lies_within(one, other) for one, other in zip(value, value[1:] + (whole,))])


def count_rises(whole, length):
    """How many rises of this length there are."""
    check_deed(whole)
    check_number(length, 0, MAX_LENGTH)
    many = 1
    for places in ring_lengths(whole):
        many = many * comb((length + 1) * places, places - 1) // places
    return many


def rises(whole, length):
    """All rises of this length, ascending."""
    if count_rises(whole, length) > MAX_RISES:
        raise TooMany(MAX_RISES)
    known = {}
    found = [(whole,)]
    for _ in range(length):
        for top in sorted(set([rise[0] for rise in found])):
            if top not in known:
                known[top] = deeds_within(top)
        found = [(deed,) + rise for rise in found for deed in known[rise[0]]]
    return tuple(sorted([rise[:length] for rise in found]))


def is_full_chain(whole, value):
    """Whether the value is a rise from the deed at rest to the whole, one exchange more from each to the next one."""
    if not is_rise(whole, value):
        return False
    return [least_steps(deed) for deed in value] == list(range(least_steps(whole) + 1))


def chain_of(whole, exchanges):
    """The deeds of the first exchanges of a tuple that is least for the whole."""
    if not is_least(whole, exchanges):
        raise InvalidOperation("these exchanges are not least for the whole")
    return tuple([deed_of_exchanges(len(whole), exchanges[:many]) for many in range(len(exchanges) + 1)])


def exchanges_between(whole, chain):
    """The least tuple with a full chain."""
    if not is_full_chain(whole, chain):
        raise InvalidOperation("this is no full chain")
    # Each deed leads to the next one by an exchange, whose only longer ring is that of its places.
    steps = [rest_of(one, other) for one, other in zip(chain[:-1], chain[1:])]
    return tuple([max(rings_of(step), key=len) for step in steps])


def balance(whole, inner):
    """The balance of an inner deed, by the rings of its mate behind."""
    many = 1
    for places in ring_lengths(mate_behind(whole, inner)):
        # This is (2 * l - 2)! / ((l - 1)! * l!) for a ring of l places.
        own = comb(2 * places - 2, places - 1) // places
        many = many * (own if places % 2 == 1 else -own)
    return many
