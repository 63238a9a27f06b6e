"""A shell: commands for a desk, told and answered by strings."""

from renamedown.base.deeds import write_deed
from renamedown.base.words import MAX_FIGURES, is_owner
from renamedown.count.classes import class_size
from renamedown.errors import InvalidNumber, InvalidOperation, InvalidRow, Locked, NothingToUndo, ParseError, TooMany
from renamedown.moves.plain import is_plain
from renamedown.rows.rows import Row
from renamedown.rows.webs import groups_of
from renamedown.use.desk import Desk


def _pass_on(desk, index):
    """Do `on N`."""
    desk.pass_on(index)


def _pass_back(desk, index):
    """Do `back N`."""
    desk.pass_back(index)


def _lead(desk, source, target):
    """Do `lead N N`."""
    desk.lead(source, target)


def _lead_renamed(desk, source, target):
    """Do `lead N N renamed`."""
    desk.lead(source, target, renamed=True)


def _put(desk, index, first, second, owner):
    """Do `put N A B O`."""
    desk.put(index, (first, second, owner))


def _take(desk, index):
    """Do `take N`."""
    desk.take(index)


def _own(desk, index, owner):
    """Do `own N O`."""
    desk.own(index, owner)


def _make_plain(desk):
    """Do `plain`."""
    desk.make_plain()


def _lock(desk, index):
    """Do `lock N`."""
    desk.lock(index)


def _unlock(desk, index):
    """Do `unlock N`."""
    desk.unlock(index)


def _undo(desk, many):
    """Do `undo N`."""
    desk.undo(many=many)


def _listed(parts):
    """The texts with semicolons between them, or `none` if there are none."""
    return "; ".join(parts) if len(parts) > 0 else "none"


def _spaced(numbers):
    """The numbers with single blanks between them."""
    return " ".join([str(number) for number in numbers])


def _tell_row(desk):
    """Answer `row`."""
    return _listed(desk.row.lines)


def _tell_groups(desk):
    """Answer `groups`."""
    return _listed([_spaced(group) for group in groups_of(desk.row)])


def _tell_locks(desk):
    """Answer `locks`."""
    return _spaced(desk.locks) if len(desk.locks) > 0 else "none"


def _tell_moves(desk):
    """Answer `moves`."""
    return _listed([f"{index} {way}" for index, way in desk.free_moves])


def _tell_deed(desk):
    """Answer `deed`."""
    return write_deed(desk.row.deed)


def _tell_path(desk, place):
    """Answer `path A`."""
    return _spaced(desk.row.path(place))


def _tell_class(desk):
    """Answer `class`."""
    return str(class_size(desk.row))


def _yes_or_no(value):
    """The answer to what holds or not."""
    return "yes" if value else "no"


def _tell_settled(desk):
    """Answer `settled`."""
    return _yes_or_no(is_plain(desk.row))


# The commands of which each integer is told as 0, and each letter as a.
_CHANGES = {
    "on 0": _pass_on, "back 0": _pass_back, "lead 0 0": _lead, "lead 0 0 renamed": _lead_renamed, "put 0 0 0 a": _put,
    "take 0": _take, "own 0 a": _own, "plain": _make_plain, "lock 0": _lock, "unlock 0": _unlock, "undo 0": _undo,
}
_QUESTIONS = {
    "row": _tell_row, "groups": _tell_groups, "locks": _tell_locks, "moves": _tell_moves, "deed": _tell_deed,
    "path 0": _tell_path, "class": _tell_class, "settled": _tell_settled,
}


def _is_number(word):
    """Whether the word is an integer of at least 0 without leading zeros."""
    if word == "" or not all(["0" <= sign <= "9" for sign in word]):
        return False
    return word == "0" or word[0] != "0"


def _form_of(words):
    """The words with 0 for each integer, and a for each letter."""
    return " ".join(["0" if _is_number(word) else "a" if is_owner(word) else word for word in words])


def _given_in(words):
    """The integers and letters among the words."""
    # One figure too many is enough for an integer that is refused as too long.
    return [int(word[:MAX_FIGURES + 1]) if _is_number(word) else word
            for word in words if _is_number(word) or is_owner(word)]


def _steps_of(text):
    """The triples that the text tells as STEPS, or None."""
    if text == "none":
        return ()
    parts = [part.split(" ") for part in text.split("; ")]
    if not all([_form_of(part) == "0 0 a" for part in parts]):
        return None
    return tuple([tuple(_given_in(part)) for part in parts])


def _answer(desk, command):
    """The answer to a command, which may raise errors of the package."""
    words = command.split(" ")
    form, given = _form_of(words), _given_in(words)
    if form in _CHANGES:
        change = _CHANGES[form]
        change(desk, *given)
        return "ok"
    if form in _QUESTIONS:
        question = _QUESTIONS[form]
        return question(desk, *given)
    steps = _steps_of(" ".join(words[1:])) if words[0] == "reached" else None
    if steps is None:
        return "what"
    return _yes_or_no(desk.is_reached(Row(desk.row.places, steps)))


class Shell:
    """A shell that works on a desk of its own, the twin of a desk."""

    def __init__(self, desk):
        if not isinstance(desk, Desk):
            raise InvalidOperation("this is no desk")
        self._worked = desk.twin()

    def __call__(self, command):
        if not isinstance(command, str):
            raise ParseError(None)
        try:
            return _answer(self._worked, command)
        except InvalidNumber:
            return "number"
        except InvalidOperation:
            return "operation"
        except InvalidRow:
            return "row"
        except TooMany:
            return "many"
        except NothingToUndo:
            return "nothing"
        except Locked as error:
            first, second, owner = error.step
            return f"locked {first} {second} {owner}"

    def desk(self):
        """A twin of the desk as it is now."""
        return self._worked.twin()

    def __str__(self):
        return f"shell of {str(self._worked)}"
