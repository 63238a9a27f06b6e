"""Making moves, one after the other, also very many of them."""

from itertools import chain

from renamedown.base.words import exchange_behind

_BLOCK = 600


def passed(one, other, way):
    """The two steps in which a step and the next one end by a passing."""
    if way == "on":
        return (other, exchange_behind(one, other) + (one[2],))
    return (exchange_behind(other, one) + (other[2],), one)


def blocks_of(moves):
    """The moves in tuples of some hundreds, so that equal ones among these need be looked at just once."""
    return [moves[at:at + _BLOCK] for at in range(0, len(moves), _BLOCK)]


def _mask_of(exchange):
    """The integer in which the bits of the two places are set."""
    return (1 << exchange[0]) + (1 << exchange[1])


def _exchange_of(mask):
    """The exchange of the places whose bits are set."""
    high = mask.bit_length() - 1
    return ((mask - (1 << high)).bit_length() - 1, high)


def _make_all(masks, owners, moves):
    """Make moves of the steps with these exchanges, told by their bits, and these owners."""
    for index, way in moves:
        later = index + 1
        one, other = masks[index], masks[later]
        if one == other or one & other == 0:
            masks[index], masks[later] = other, one
        # Of two exchanges with one common place each makes of the other the third one of their places.
        elif way == "on":
            masks[index], masks[later] = other, one ^ other
        else:
            masks[index], masks[later] = one ^ other, one
        owners[index], owners[later] = owners[later], owners[index]


def row_passed(row, moves):
    """The row behind moves that are known to be moves of the row."""
    masks = [_mask_of(step) for step in row.steps]
    owners = [step[2] for step in row.steps]
    idle = None
    for block in blocks_of(moves):
        # What has just changed nothing changes nothing again.
        if block != idle:
            before = (list(masks), list(owners))
            _make_all(masks, owners, block)
            idle = block if (masks, owners) == before else None
    return row.with_all(tuple([_exchange_of(mask) + (owner,) for mask, owner in zip(masks, owners)]))


def row_behind(row, move):
    """The row behind one move that is known to be a move of the row."""
    index, way = move
    steps = row.steps
    pair = passed(steps[index], steps[index + 1], way)
    return row.with_all(steps[:index] + pair + steps[index + 2:])


def found_for(moves, table):
    """The list of what the table has for each of the moves."""
    parts = []
    before, found = None, []
    for block in blocks_of(moves):
        if block != before:
            before, found = block, [table[move] for move in block]
        parts.append(found)
    return list(chain.from_iterable(parts))
