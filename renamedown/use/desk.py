"""A desk, where a row is changed, its steps are locked, and changes are taken back."""

from renamedown.base.words import check_number, exchange_behind, is_count, is_owner
from renamedown.decide.told import wish_of
from renamedown.errors import InvalidNumber, InvalidOperation, Locked, NothingToUndo
from renamedown.moves.making import passed
from renamedown.moves.passings import check_pair, moves_of_lead
from renamedown.moves.plain import plain_row, sign_of
from renamedown.rows.rows import Row, check_row


class Stand:
    """What a desk has, and the stand ahead of its last change. It never changes."""

    def __init__(self, held, marks, before):
        self.held = held
        self.order = held.steps
        # For each step whether it is locked.
        self.marks = marks
        self.before = before
        self.depth = 0 if before is None else before.depth + 1


class Trial:
    """A block at whose end a desk is as it was when the block was entered last."""

    def __init__(self, held):
        self._held = held
        self._kept = None

    def __enter__(self):
        self._kept = self._held._stand
        return self._held

    def __exit__(self, kind, value, trace):
        held = self._held
        held._stand = self._kept


def _barred(steps, marks, move):
    """The locked step that a move would rename to another exchange, or None."""
    index, way = move
    one, other = steps[index], steps[index + 1]
    renamed = index if way == "on" else index + 1
    # Either each of two exchanges makes another one of the other one, or none does.
    if marks[renamed] and exchange_behind(one, other) != one[:2]:
        return steps[renamed]
    return None


def _behind_moves(stand, moves):
    """The row and the marks behind moves, unless these would rename a locked step."""
    steps, marks = list(stand.order), list(stand.marks)
    for index, way in moves:
        locked = _barred(steps, marks, (index, way))
        if locked is not None:
            raise Locked(locked)
        steps[index], steps[index + 1] = passed(steps[index], steps[index + 1], way)
        marks[index], marks[index + 1] = marks[index + 1], marks[index]
    return (stand.held.with_all(tuple(steps)), tuple(marks))


def _with_part(parts, index, part):
    """The tuple with another part at an index."""
    return parts[:index] + (part,) + parts[index + 1:]


class Desk:
    """A desk with a row, of which some steps can be locked."""

    def __init__(self, row):
        check_row(row)
        self._stand = Stand(row, (False,) * len(row), None)

    def _change(self, row, marks):
        """Put a row with its marks in the place of what is there."""
        self._stand = Stand(row, marks, self._stand)

    def _make_moves(self, moves):
        """Make moves, as one change."""
        row, marks = _behind_moves(self._stand, moves)
        self._change(row, marks)

    def pass_on(self, index):
        """Pass on at an index."""
        check_pair(self.row, index)
        self._make_moves([(index, "on")])

    def pass_back(self, index):
        """Pass back at an index."""
        check_pair(self.row, index)
        self._make_moves([(index, "back")])

    def lead(self, source, target, *, renamed=False):
        """Lead a step from one index to another one."""
        self._make_moves(moves_of_lead(self.row, source, target, renamed))

    def put(self, index, step):
        """Put one step more into the row, which gets this index."""
        row, marks = self.row.with_step(index, step), self._stand.marks
        self._change(row, marks[:index] + (False,) + marks[index:])

    def take(self, index):
        """Take a step away."""
        row, marks = self.row.without_step(index), self._stand.marks
        if marks[index]:
            raise Locked(self.row[index])
        self._change(row, marks[:index] + marks[index + 1:])

    def _check_index(self, index):
        """Raise InvalidNumber if no step has the index."""
        check_number(index, 0, len(self) - 1)

    def own(self, index, owner):
        """Give a step an owner."""
        self._check_index(index)
        if not is_owner(owner):
            raise InvalidOperation("an owner must be a letter from a to z")
        # A lock also bars the owner that the step has.
        if self._stand.marks[index]:
            raise Locked(self.row[index])
        first, second = self.row[index][:2]
        steps = _with_part(self.row.steps, index, (first, second, owner))
        self._change(self.row.with_all(steps), self._stand.marks)

    def make_plain(self):
        """Put the plain row in the place of the row."""
        if len(self.locks) > 0:
            raise Locked(self.row[self.locks[0]])
        self._change(plain_row(self.row), self._stand.marks)

    def lock(self, index):
        """Lock a step."""
        self._check_index(index)
        if self._stand.marks[index]:
            raise InvalidOperation("the step is locked")
        self._change(self.row, _with_part(self._stand.marks, index, True))

    def unlock(self, index):
        """Unlock a step."""
        self._check_index(index)
        if not self._stand.marks[index]:
            raise InvalidOperation("the step is not locked")
        self._change(self.row, _with_part(self._stand.marks, index, False))

    def is_reached(self, value):
        """Whether the value is a row to which the row leads."""
        return isinstance(value, Row) and sign_of(value) == sign_of(self.row)

    @property
    def row(self):
        """The row as it is now."""
        return self._stand.held

    @property
    def locks(self):
        """The indices of the locked steps, ascending."""
        return tuple([index for index, locked in enumerate(self._stand.marks) if locked])

    @property
    def wish(self):
        """The wish that the row fulfils."""
        return wish_of(self._stand.held)

    @property
    def free_moves(self):
        """The moves that can be made now, ascending."""
        steps, marks = self._stand.order, self._stand.marks
        moves = [(index, way) for index in range(len(steps) - 1) for way in ("back", "on")]
        return tuple([move for move in moves if _barred(steps, marks, move) is None])

    @property
    def changes(self):
        """The number of changes that can be taken back."""
        return self._stand.depth

    def undo(self, *, many=1):
        """Take back the last changes, so many."""
        if not is_count(many):
            raise InvalidNumber(many)
        if many > self.changes:
            raise NothingToUndo(many)
        stand = self._stand
        for _ in range(many):
            stand = stand.before
        self._stand = stand

    def twin(self):
        """An independent desk that is the same now, with the changes to take back."""
        other = Desk(self.row)
        other._stand = self._stand
        return other

    def trial(self):
        """A block for `with` that gives the desk itself and leaves no change behind."""
        return Trial(self)

    def during(self, call):
        """What the call returns for the desk, in such a block."""
        with self.trial() as same:
            return call(same)

    def __getitem__(self, at):
        return self._stand.held[at]

    def __contains__(self, x):
        return x in self._stand.held

    def __len__(self):
        return len(self._stand.order)

    def __iter__(self):
        return iter(self._stand.order)

    def __eq__(self, other):
        if not isinstance(other, Desk):
            return False
        return self._stand.held == other._stand.held and self._stand.marks == other._stand.marks

    def __str__(self):
        return f"desk of {len(self)} steps, {len(self.locks)} locks"
