"""Plain rows, to which each row leads, and doubles."""

from renamedown.base.deeds import check_deed, is_deed, rings_of
from renamedown.base.words import MAX_STEPS, check_number, is_owner
from renamedown.errors import InvalidOperation
from renamedown.moves.doubles import pair_up, set_doubles
from renamedown.moves.owning import put_owners
from renamedown.moves.passings import check_pair
from renamedown.moves.trails import Trail
from renamedown.rows.rows import Row
from renamedown.rows.webs import are_groups, groups_of, handles_from, owners_in


def sign_of(row):
    """The deed, the groups, and the owners in each group."""
    groups = groups_of(row)
    return (row.deed, groups, tuple(["".join(sorted(owners_in(row, group))) for group in groups]))


def _are_group_owners(deed, group, owners):
    """Whether some row with this deed has this group, in which its steps have these owners."""
    if not isinstance(owners, str) or not all([is_owner(letter) for letter in owners]):
        return False
    if list(owners) != sorted(owners) or not all([deed[place] in group for place in group]):
        return False
    rings = [ring for ring in rings_of(deed) if ring[0] in group]
    return handles_from(len(group), len(rings), len(owners)) is not None


def are_told(value):
    """Whether the value is a triple of a deed, of groups of its places, and of a tuple with as many parts."""
    if not isinstance(value, tuple) or len(value) != 3:
        return False
    deed, groups, parts = value
    if not is_deed(deed) or not are_groups(len(deed), groups):
        return False
    return isinstance(parts, tuple) and len(parts) == len(groups)


def is_sign(value):
    """Whether the value is the sign of some row."""
    if not are_told(value):
        return False
    deed, groups, owners = value
    if not all([_are_group_owners(deed, group, letters) for group, letters in zip(groups, owners)]):
        return False
    return sum([len(letters) for letters in owners]) <= MAX_STEPS


def singles_in(deed):
    """The singles of a deed, known to be one."""
    left = list(deed)
    singles = []
    for place in range(len(deed)):
        source = left.index(place)
        if source != place:
            singles.append((place, source))
            left[place], left[source] = place, left[place]
    return tuple(singles)


def singles_of(deed):
    """Exchanges that do the deed, each one bringing the thing of a place to it."""
    check_deed(deed)
    return singles_in(deed)


def plain_exchanges(deed, group, many):
    """The exchanges of the steps of a group, so many, in a plain row."""
    heads = [ring[0] for ring in rings_of(deed) if ring[0] in group]
    singles = [single for single in singles_of(deed) if single[0] in group]
    doubles = [(heads[0], head) for head in heads[1:] for _ in range(2)]
    return doubles + [group[:2]] * (many - len(doubles) - len(singles)) + singles


def plain_of(sign):
    """The plain row with a sign."""
    if not is_sign(sign):
        raise InvalidOperation("this is no sign of a row")
    deed, groups, owners = sign
    steps = []
    for group, letters in zip(groups, owners):
        exchanges = plain_exchanges(deed, group, len(letters))
        steps.extend([exchange + (letter,) for exchange, letter in zip(exchanges, letters)])
    return Row(len(deed), tuple(steps))


def plain_row(row):
    """The plain row with the sign of a row."""
    return plain_of(sign_of(row))


def is_plain(row):
    """Whether the row is plain."""
    return row == plain_row(row)


def _lead_group(trail, group, low):
    """Lead the steps of a group, all from low on, to the front; return the index behind them."""
    high = low
    for index in range(low, len(trail.now)):
        if trail.now[index][0] in group:
            # Steps of different groups pass without being renamed.
            trail.lead(index, high, False)
            high += 1
    return high


def moves_to_plain(row):
    """Moves by which the row leads to its plain row."""
    plain = plain_row(row)
    trail = Trail(row)
    joined = [group for group in groups_of(row) if len(group) > 1]
    low = 0
    for group in joined:
        high = _lead_group(trail, group, low)
        end = pair_up(trail, group, low, high)
        set_doubles(trail, plain.exchanges[low:end:2], low, high)
        put_owners(trail, list(range(low, high)), [step[2] for step in plain.steps[low:high]])
        low = high
    return trail.all_moves()


def is_double_at(row, index):
    """Whether a double stands at an index and the next one."""
    check_pair(row, index)
    return row.exchanges[index] == row.exchanges[index + 1]


def _check_double(row, index):
    """Raise InvalidOperation unless a double stands at an index."""
    if not is_double_at(row, index):
        raise InvalidOperation("there is no double at this index")


def double_led(row, source, target):
    """The row in which the double at the source is led to the target, and the moves."""
    check_pair(row, source)
    check_pair(row, target)
    _check_double(row, source)
    trail = Trail(row)
    trail.lead_double(source, target)
    return (trail.end_row(), trail.all_moves())


def double_renamed(row, index, other):
    """The row in which the double at an index is renamed by another step, and the moves."""
    check_pair(row, index)
    check_number(other, 0, len(row) - 1)
    _check_double(row, index)
    if other in (index, index + 1):
        raise InvalidOperation("the other step is one of the double")
    trail = Trail(row)
    trail.lead_double(trail.rename_double(index, other), index)
    return (trail.end_row(), trail.all_moves())
