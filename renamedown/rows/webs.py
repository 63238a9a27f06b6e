"""The groups of a row, and the trees of steps that join them."""

from renamedown.base.deeds import rings_of
from renamedown.base.words import check_number, is_below, is_integer, owners_counted
from renamedown.errors import InvalidOperation
from renamedown.rows.rows import Row, check_row


def groups_joined(places, exchanges):
    """The groups of so many places that these exchanges join."""
    marks = list(range(places))
    for first, second in exchanges:
        kept, lost = marks[first], marks[second]
        if kept != lost:
            marks = [kept if mark == lost else mark for mark in marks]
    groups = {}
    for place, mark in enumerate(marks):
        groups.setdefault(mark, []).append(place)
    return tuple([tuple(group) for group in groups.values()])


def are_groups(places, value):
    """Whether the value is a tuple of ascending tuples, ascending, with each place once."""
    if not isinstance(value, tuple) or not all([isinstance(group, tuple) and len(group) > 0 for group in value]):
        return False
    stops = [place for group in value for place in group]
    if not all([is_integer(place) for place in stops]) or sorted(stops) != list(range(places)):
        return False
    return list(value) == sorted([tuple(sorted(group)) for group in value])


def handles_from(places, rings, steps):
    """The handles of a group with so many places, rings and steps, None if there is no such group."""
    spare = steps - (places + rings - 2)
    if spare < 0 or spare % 2 == 1 or (places == 1 and steps > 0):
        return None
    return spare // 2


def groups_of(row):
    """The groups of the row."""
    check_row(row)
    return groups_joined(row.places, row.exchanges)


def groups_by_place(row):
    """For each place the group with it, where the row is known to be one."""
    own = {place: group for group in groups_joined(row.places, row.exchanges) for place in group}
    return [own[place] for place in range(row.places)]


def owners_in(row, group):
    """The owners of the steps in a group, in their order, where both are known to be such."""
    return [step[2] for step in row.steps if step[0] in group]


def group_of(row, place):
    """The group with a place."""
    check_row(row)
    check_number(place, 0, row.places - 1)
    return [group for group in groups_of(row) if place in group][0]


def is_joined(row):
    """Whether one group has all places."""
    return len(groups_of(row)) == 1


def _check_group(row, group):
    """Raise InvalidRow, or InvalidOperation unless the value is a group of the row."""
    check_row(row)
    # True is equal to 1 but no place, so the places are judged before they are compared.
    if not isinstance(group, tuple) or not all([is_integer(place) for place in group]):
        raise InvalidOperation("a group is a tuple of places")
    if group not in groups_of(row):
        raise InvalidOperation("this is no group of the row")


def steps_in(row, group):
    """The indices of the steps that belong to a group."""
    _check_group(row, group)
    return tuple([index for index, step in enumerate(row.steps) if step[0] in group])


def owner_counts(row, group):
    """The dict from the owners to how many steps of the group each one has."""
    _check_group(row, group)
    return owners_counted(owners_in(row, group))


def rings_in(row, group):
    """The rings of the deed whose places are in a group."""
    _check_group(row, group)
    return tuple([ring for ring in rings_of(row.deed) if ring[0] in group])


def handles_of(row, group):
    """The handles of a group."""
    rings, steps = rings_in(row, group), steps_in(row, group)
    return handles_from(len(group), len(rings), len(steps))


def split(row):
    """The rows of the single groups, each one with all places."""
    parts = [steps_in(row, group) for group in groups_of(row)]
    return tuple([Row(row.places, tuple([row.steps[index] for index in part])) for part in parts])


def bridges(row):
    """The indices of the steps without which the row has more groups."""
    groups = groups_of(row)
    indices = range(len(row))
    return tuple([index for index in indices if groups_of(row.without_step(index)) != groups])


def equal_pairs(row):
    """The indices of the steps whose next step has the same exchange."""
    check_row(row)
    exchanges = row.exchanges
    return tuple([index for index in range(len(row) - 1) if exchanges[index] == exchanges[index + 1]])


def any_tree(row):
    """Indices of steps that join the same groups, each of them needed for this."""
    check_row(row)
    tree = []
    for index, exchange in enumerate(row.exchanges):
        # A step whose places are joined already by the steps ahead of it is not needed.
        groups = groups_joined(row.places, row.exchanges[:index])
        if not any([exchange[0] in group and exchange[1] in group for group in groups]):
            tree.append(index)
    return tuple(tree)


def is_tree(row, value):
    """Whether the value is a tree of the row."""
    check_row(row)
    if not isinstance(value, tuple) or not all([is_below(len(row), index) for index in value]):
        return False
    if list(value) != sorted(set(value)):
        return False
    groups = groups_joined(row.places, [row.exchanges[index] for index in value])
    # As few steps as that have no step that is not needed.
    return groups == groups_of(row) and len(value) == row.places - len(groups)


def _least_minor(row, group):
    """The matrix of a group whose determinant is the number of its trees."""
    # On the diagonal the steps at a place, elsewhere those between two places as a minus.
    joined = [[-row.exchanges.count((min(x, y), max(x, y))) for y in group] for x in group]
    for at in range(len(group)):
        joined[at][at] = -sum(joined[at])
    return [numbers[1:] for numbers in joined[1:]]


def _determinant(matrix):
    """The determinant of a matrix of which no part at the upper left has the determinant 0."""
    numbers = [list(line) for line in matrix]
    before = 1
    for at in range(len(numbers)):
        pivot = numbers[at]
        for low in range(at + 1, len(numbers)):
            other = numbers[low]
            # These divisions come out even at each place (Bareiss).
            numbers[low] = [(pivot[at] * y - other[at] * x) // before for x, y in zip(pivot, other)]
        before = pivot[at]
    return before


def count_trees(row):
    """How many trees the row has."""
    count = 1
    for group in groups_of(row):
        count = count * _determinant(_least_minor(row, group))
    return count
