"""Told rows: rows with a told deed and told groups and owners, or a reason why there are none."""

from renamedown.base.deeds import behind, check_deed, exchange_deed, rings_of
from renamedown.base.words import MAX_STEPS, check_number, is_among, is_integer, is_owner, is_step, owners_counted
from renamedown.errors import InvalidNumber, InvalidOperation, NoWay
from renamedown.moves.passings import led
from renamedown.moves.plain import are_told, plain_exchanges, plain_of
from renamedown.rows.rows import Row
from renamedown.rows.webs import are_groups, groups_of, owners_in


def _are_counts(value):
    """Whether the value is a dict from owners to integers from 1 to 24."""
    if not isinstance(value, dict) or not all([is_owner(owner) for owner in value]):
        return False
    return all([is_integer(many) and 1 <= many <= MAX_STEPS for many in value.values()])


def is_wish(value):
    """Whether the value is a wish."""
    return are_told(value) and all([_are_counts(counts) for counts in value[2]])


def wish_of(row):
    """The wish that a row fulfils."""
    groups = groups_of(row)
    return (row.deed, groups, tuple([owners_counted(owners_in(row, group)) for group in groups]))


def _check_wish(wish):
    """Raise InvalidOperation unless the value is a wish."""
    if not is_wish(wish):
        raise InvalidOperation("this is no wish")


def _apart(deed, groups):
    """The places whose things the deed takes to another group, ascending."""
    return sorted([place for group in groups for place in group if deed[place] not in group])


def _least_number(deed, group):
    """The least number of steps with this deed that join a group in which its rings lie."""
    return len(group) + len([ring for ring in rings_of(deed) if ring[0] in group]) - 2


def _spare_steps(wish):
    """For each group of several places with whole rings, how many more steps than needed it has."""
    deed, groups, owners = wish
    apart = _apart(deed, groups)
    whole = [len(group) > 1 and not any([place in apart for place in group]) for group in groups]
    return [(group, sum(counts.values()) - _least_number(deed, group))
            for group, counts, told in zip(groups, owners, whole) if told]


def reasons_against(wish):
    """All reasons why no row fulfils the wish."""
    _check_wish(wish)
    deed, groups, owners = wish
    spare = _spare_steps(wish)
    apart = [("apart", place) for place in _apart(deed, groups)]
    alone = [("alone", group) for group, counts in zip(groups, owners) if len(group) == 1 and counts != {}]
    few = [("few", group) for group, many in spare if many < 0]
    odd = [("odd", group) for group, many in spare if many % 2 == 1]
    total = sum([many for counts in owners for many in counts.values()])
    long = [("long", total)] if total > MAX_STEPS else []
    return tuple(apart + alone + few + odd + long)


def can_be(wish):
    """Whether some row fulfils the wish."""
    return reasons_against(wish) == ()


def _letters(counts):
    """The owners of so many steps each, in alphabetical order."""
    return "".join([owner * counts[owner] for owner in sorted(counts)])


def row_for(wish):
    """A row that fulfils the wish."""
    reasons = reasons_against(wish)
    if reasons != ():
        raise NoWay(reasons[0])
    deed, groups, owners = wish
    return plain_of((deed, groups, tuple([_letters(counts) for counts in owners])))


def wish_paper(wish):
    """A row that fulfils the wish, or a reason against it, with a word that says which."""
    reasons = reasons_against(wish)
    return ("row", row_for(wish)) if reasons == () else reasons[0]


def is_wish_paper(wish, value):
    """Whether the value is a wish paper."""
    if is_among(reasons_against(wish), value):
        return True
    if not isinstance(value, tuple) or len(value) != 2 or value[0] != "row":
        return False
    return isinstance(value[1], Row) and wish_of(value[1]) == wish


def least_numbers(deed, groups):
    """The least number of steps for each group that rows with this deed and these groups have."""
    check_deed(deed)
    if not are_groups(len(deed), groups):
        raise InvalidOperation("these are no groups of so many places")
    apart = _apart(deed, groups)
    if apart != []:
        raise NoWay(("apart", apart[0]))
    return tuple([_least_number(deed, group) for group in groups])


def _exchanges_from(deed, group, exchange, many):
    """So many exchanges that join a group and do what the deed does there, the told one first."""
    left = behind(exchange_deed(len(deed), exchange), deed)
    if many - 1 >= _least_number(left, group):
        return [exchange] + plain_exchanges(left, group, many - 1)
    # There are just too few to join the group once more, so the first one must join two parts of it.
    ring = [part for part in rings_of(left) if exchange[1] in part][0]
    parts = (tuple(sorted(ring)), tuple([place for place in group if place not in ring]))
    inner = [plain_exchanges(left, part, _least_number(left, part)) for part in parts]
    return [exchange] + inner[0] + inner[1]


def _row_begun(wish, step):
    """The row that fulfils the wish, with this step first."""
    deed, groups, owners = wish
    others = []
    for group, counts in zip(groups, owners):
        letters = _letters(counts)
        exchanges = plain_exchanges(deed, group, len(letters))
        if step[0] in group:
            exchanges = _exchanges_from(deed, group, step[:2], len(letters))[1:]
            letters = letters.replace(step[2], "", 1)
        others.extend([exchange + (letter,) for exchange, letter in zip(exchanges, letters)])
    return Row(len(deed), (step, *others))


def row_with(wish, index, step):
    """A row that fulfils the wish and has this step at this index."""
    _check_wish(wish)
    deed, groups, owners = wish
    check_number(index, 0, MAX_STEPS - 1)
    if not is_step(len(deed), step):
        raise InvalidOperation("this is no step of so many places")
    if index >= len(row_for(wish)):
        raise InvalidNumber(index)
    joined = [step[1] in group and step[2] in counts for group, counts in zip(groups, owners) if step[0] in group]
    if joined != [True]:
        raise NoWay(step)
    # All other steps go past the told one, which renames them and stays what it is.
    return led(_row_begun(wish, step), 0, index)[0]
