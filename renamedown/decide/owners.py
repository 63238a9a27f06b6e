"""Owners of the steps of a row: which strings of them fit, and moves that put them so."""

from math import factorial

from renamedown.base.words import check_number
from renamedown.errors import InvalidOperation
from renamedown.moves.owning import put_owners
from renamedown.moves.trails import Trail
from renamedown.rows.rows import check_owners, check_row
from renamedown.rows.webs import group_of, groups_by_place, groups_of, steps_in


def _step_groups(row):
    """The groups to which the single steps belong."""
    groups = groups_by_place(row)
    return [groups[step[0]] for step in row.steps]


def _owners_of(row):
    """The owners of the single steps."""
    return [step[2] for step in row.steps]


def _letters_by_group(groups, letters):
    """The dict from the groups to the letters of their steps, in alphabetical order."""
    found = {}
    for group, letter in zip(groups, letters):
        found.setdefault(group, []).append(letter)
    return {group: sorted(part) for group, part in found.items()}


def _letters_of(row):
    """The dict from the groups that have steps to their owners, in alphabetical order."""
    return _letters_by_group(_step_groups(row), _owners_of(row))


def do_fit(row, owners):
    """Whether the row leads to the row with the same exchanges and these owners."""
    check_row(row)
    check_owners(row, owners)
    groups = _step_groups(row)
    return _letters_by_group(groups, owners) == _letters_by_group(groups, _owners_of(row))


def _check_fit(row, owners):
    """Raise InvalidOperation unless the owners fit."""
    if not do_fit(row, owners):
        raise InvalidOperation("the owners do not fit the row")


def _in_order(groups, letters):
    """The least string with these letters in the groups of the steps."""
    left = _letters_by_group(groups, letters)
    return "".join([left[group].pop(0) for group in groups])


def least_owners(row):
    """The least string that fits."""
    check_row(row)
    return _in_order(_step_groups(row), _owners_of(row))


def moves_to_owners(row, owners):
    """Moves by which the row becomes the one with the same exchanges and these owners."""
    _check_fit(row, owners)
    trail = Trail(row)
    parts = [steps_in(row, group) for group in groups_of(row)]
    for part in parts:
        if len(part) > 0:
            put_owners(trail, part, [owners[index] for index in part])
    return trail.all_moves()


def exchange_owners(row, one, other):
    """Moves by which the owners of two steps are exchanged."""
    check_row(row)
    check_number(one, 0, len(row) - 1)
    check_number(other, 0, len(row) - 1)
    if group_of(row, row.steps[one][0]) != group_of(row, row.steps[other][0]):
        raise InvalidOperation("the steps belong to different groups")
    owners = _owners_of(row)
    owners[one], owners[other] = owners[other], owners[one]
    return moves_to_owners(row, "".join(owners))


def _orders_of(letters):
    """How many orders these letters have."""
    many = factorial(len(letters))
    for letter in sorted(set(letters)):
        many = many // factorial(letters.count(letter))
    return many


def _orders_in(parts):
    """How many strings have these letters in each group."""
    many = 1
    for letters in parts.values():
        many = many * _orders_of(letters)
    return many


def count_owners(row):
    """How many strings fit."""
    check_row(row)
    return _orders_in(_letters_of(row))


def _next_owners(groups, owners):
    """The next greater string with the same letters in each group, or None."""
    letters = list(owners)
    for at in range(len(letters) - 1, -1, -1):
        later = [k for k in range(at + 1, len(letters)) if groups[k] == groups[at] and letters[k] > letters[at]]
        if later != []:
            _, best = min([(letters[k], k) for k in later])
            letters[at], letters[best] = letters[best], letters[at]
            return "".join(letters[:at + 1]) + _in_order(groups[at + 1:], letters[at + 1:])
    return None


def each_owners(row):
    """All strings that fit, ascending."""
    check_row(row)
    groups = _step_groups(row)
    owners = least_owners(row)
    while owners is not None:
        yield owners
        owners = _next_owners(groups, owners)


def _count_ahead(total, letters, letter):
    """How many of so many strings have a lesser letter first, of these letters in alphabetical order."""
    return total * letters.index(letter) // len(letters)


def _count_with(total, letters, letter):
    """How many of so many strings have this letter first, of these letters."""
    return total * letters.count(letter) // len(letters)


def owners_at(row, index):
    """The string with an index among all that fit, ascending."""
    check_row(row)
    groups = _step_groups(row)
    left = _letters_by_group(groups, _owners_of(row))
    total = _orders_in(left)
    check_number(index, 0, total - 1)
    rest, owners = index, []
    for group in groups:
        letters = left[group]
        letter = max([one for one in sorted(set(letters)) if _count_ahead(total, letters, one) <= rest])
        rest = rest - _count_ahead(total, letters, letter)
        total = _count_with(total, letters, letter)
        letters.remove(letter)
        owners.append(letter)
    return "".join(owners)


def index_of_owners(row, owners):
    """The index of a string among all that fit, ascending."""
    check_row(row)
    check_owners(row, owners)
    groups = _step_groups(row)
    left = _letters_by_group(groups, owners)
    if left != _letters_by_group(groups, _owners_of(row)):
        raise InvalidOperation("the owners do not fit the row")
    index, total = 0, _orders_in(left)
    for group, letter in zip(groups, owners):
        letters = left[group]
        index = index + _count_ahead(total, letters, letter)
        total = _count_with(total, letters, letter)
        letters.remove(letter)
    return index
