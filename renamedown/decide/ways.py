"""Whether a row leads to another one: moves by which it does, or a reason why it does not."""

from renamedown.base.words import is_below, is_exchange, is_owner
from renamedown.errors import InvalidOperation, NoWay
from renamedown.moves.making import row_passed
from renamedown.moves.passings import all_on, is_moves, undone
from renamedown.moves.plain import moves_to_plain, sign_of
from renamedown.rows.rows import Row, check_row
from renamedown.rows.webs import group_of, groups_by_place, groups_of, owners_in

MAX_WAY = 200000

_MAX_ROUND = 10


def _check_two(one, other):
    """Raise InvalidRow unless both are rows, InvalidOperation for unlike numbers of places."""
    check_row(one)
    check_row(other)
    if one.places != other.places:
        raise InvalidOperation("the rows have unlike numbers of places")


def leads_to(one, other):
    """Whether the one row leads to the other one."""
    _check_two(one, other)
    return sign_of(one) == sign_of(other)


def _way_between(ahead, behind):
    """The moves from a row to another one, if these moves lead from both to one row."""
    many = 0
    # What both do at last needs neither to be done nor to be taken back.
    while many < min(len(ahead), len(behind)) and ahead[-1 - many] == behind[-1 - many]:
        many += 1
    return ahead[:len(ahead) - many] + undone(behind[:len(behind) - many])


def way_to(one, other, *, only_on=False):
    """Moves by which the one row leads to the other one."""
    _check_two(one, other)
    if not isinstance(only_on, bool):
        raise InvalidOperation("only_on must be True or False")
    reason = any_reason(one, other)
    if reason is not None:
        raise NoWay(reason)
    moves = _way_between(moves_to_plain(one), moves_to_plain(other))
    return all_on(moves) if only_on else moves


def _deed_reasons(one, other):
    """The places whose things the deeds of both take to different places, as reasons."""
    ends = list(zip(one.deed, other.deed))
    return [("deed", place) for place in range(one.places) if ends[place][0] != ends[place][1]]


def _joined_reasons(one, other):
    """The pairs of places that are in one group in exactly one of both rows, as reasons."""
    left, right = groups_by_place(one), groups_by_place(other)
    apart = [place for place in range(one.places) if left[place] != right[place]]
    return [("joined", a, b) for a in apart for b in apart if a < b and (b in left[a]) != (b in right[a])]


def _owner_reasons(one, other):
    """The owners with unlike numbers of steps in groups that both rows have, as reasons."""
    reasons = []
    for group in groups_of(one):
        left, right = owners_in(one, group), owners_in(other, group)
        owners = sorted(set(left + right))
        reasons.extend([("owner", group[0], owner) for owner in owners if left.count(owner) != right.count(owner)])
    return reasons


def any_reason(one, other):
    """A reason why the one row does not lead to the other one, or None."""
    _check_two(one, other)
    for find in (_deed_reasons, _joined_reasons, _owner_reasons):
        reasons = find(one, other)
        if reasons != []:
            return reasons[0]
    return None


def has_reason_form(places, value):
    """Whether the value has the form of a reason for rows of so many places."""
    if not isinstance(value, tuple) or len(value) not in (2, 3):
        return False
    if value[0] == "deed":
        return len(value) == 2 and is_below(places, value[1])
    if value[0] == "joined":
        return is_exchange(places, value[1:])
    return value[0] == "owner" and len(value) == 3 and is_below(places, value[1]) and is_owner(value[2])


def is_reason(one, other, value):
    """Whether the value is a reason why the one row does not lead to the other one."""
    _check_two(one, other)
    if not has_reason_form(one.places, value):
        return False
    word, place = value[:2]
    if word == "deed":
        return one.path(place)[-1] != other.path(place)[-1]
    left, right = group_of(one, place), group_of(other, place)
    if word == "joined":
        return (value[2] in left) != (value[2] in right)
    return owners_in(one, left).count(value[2]) != owners_in(other, right).count(value[2])


def way_paper(one, other):
    """Moves by which the one row leads to the other one, or a reason, with a word that says which."""
    reason = any_reason(one, other)
    if reason is not None:
        return ("reason", reason)
    return ("moves", way_to(one, other))


def is_way_paper(one, other, value):
    """Whether the value is a way paper of both rows."""
    _check_two(one, other)
    if not isinstance(value, tuple) or len(value) != 2:
        return False
    if value[0] == "moves":
        return is_moves(one, value[1]) and row_passed(one, value[1]) == other
    return value[0] == "reason" and is_reason(one, other, value[1])


def classes_of(rows):
    """The indices of the rows, those of rows that lead to one another together."""
    if not isinstance(rows, tuple) or not all([isinstance(row, Row) for row in rows]):
        raise InvalidOperation("the rows must be a tuple of rows")
    found = {}
    for index, row in enumerate(rows):
        found.setdefault(sign_of(row), []).append(index)
    return tuple(sorted([tuple(indices) for indices in found.values()]))


def _are_stops(one, others):
    """Whether these are a tuple of rows, not too many, with as many places as the one."""
    if not isinstance(others, tuple) or len(others) > _MAX_ROUND:
        return False
    return all([isinstance(other, Row) and other.places == one.places for other in others])


def round_trip(one, others):
    """The moves by which the row leads to one after the other, and back to itself at last."""
    check_row(one)
    if not _are_stops(one, others):
        raise InvalidOperation("the others must be a tuple of at most ten rows with as many places")
    for other in others:
        reason = any_reason(one, other)
        if reason is not None:
            raise NoWay(reason)
    plain = [moves_to_plain(row) for row in (one,) + others + (one,)]
    moves = []
    for ahead, behind in zip(plain[:-1], plain[1:]):
        moves.extend(_way_between(ahead, behind))
    return tuple(moves)
