"""Rows: exchanges that are done one after the other, each with an owner."""

from renamedown.base.deeds import deed_of_exchanges, is_deed
from renamedown.base.words import MAX_PLACES, MAX_STEPS, PLACE_WORDS, check_number, check_places
from renamedown.base.words import is_owner, is_step, owners_counted, place_behind
from renamedown.errors import InvalidOperation, InvalidRow, ParseError, TooMany


def step_of_line(places, line):
    """The step of so many places with this line, or None."""
    words = line.split(" ") if isinstance(line, str) else []
    if len(words) != 3 or words[0] not in PLACE_WORDS or words[1] not in PLACE_WORDS:
        return None
    step = (PLACE_WORDS.index(words[0]), PLACE_WORDS.index(words[1]), words[2])
    return step if is_step(places, step) else None


def _are_steps(places, value):
    """Whether the value is a tuple of steps of so many places, not too many."""
    if not isinstance(value, tuple) or len(value) > MAX_STEPS:
        return False
    return all([is_step(places, step) for step in value])


def _step_named(step, names):
    """The step with the names of its places in their place."""
    first, second = names[step[0]], names[step[1]]
    return (min(first, second), max(first, second), step[2])


class Row:
    """A row of steps of so many places. It never changes."""

    def __init__(self, places, steps=()):
        check_places(places)
        if not _are_steps(places, steps):
            raise InvalidRow("the steps must be a tuple of at most 24 steps of these places")
        self._places = places
        self._steps = steps

    @classmethod
    def from_lines(cls, places, lines):
        """The row with these lines."""
        check_places(places)
        if not isinstance(lines, tuple):
            raise ParseError(None)
        steps = [step_of_line(places, line) for line in lines]
        if None in steps:
            raise ParseError(steps.index(None))
        return cls(places, tuple(steps))

    @property
    def places(self):
        """The number of places."""
        return self._places

    @property
    def steps(self):
        """The tuple of the steps."""
        return self._steps

    @property
    def lines(self):
        """The tuple of the lines of the steps."""
        return tuple([f"{first} {second} {owner}" for first, second, owner in self._steps])

    @property
    def exchanges(self):
        """The tuple of the exchanges of the steps."""
        return tuple([step[:2] for step in self._steps])

    @property
    def owners(self):
        """The dict from the owners to how many steps each one has."""
        return owners_counted([step[2] for step in self._steps])

    @property
    def deed(self):
        """What the whole row does."""
        return deed_of_exchanges(self._places, self.exchanges)

    def path(self, place):
        """The places where the thing lies that lies at this place at first."""
        check_number(place, 0, self._places - 1)
        stops = [place]
        for step in self._steps:
            stops.append(place_behind(stops[-1], step))
        return tuple(stops)

    def thing_at(self, place, index):
        """The place where the thing lay at first that lies at this place behind the first steps."""
        check_number(place, 0, self._places - 1)
        check_number(index, 0, len(self._steps))
        thing = place
        for step in self._steps[:index][::-1]:
            thing = place_behind(thing, step)
        return thing

    def with_step(self, index, step):
        """The row with one step more, which gets this index."""
        check_number(index, 0, len(self._steps))
        if not is_step(self._places, step):
            raise InvalidOperation("this is no step of so many places")
        if len(self._steps) == MAX_STEPS:
            raise TooMany(MAX_STEPS)
        return self.with_all(self._steps[:index] + (step,) + self._steps[index:])

    def without_step(self, index):
        """The row without the step with this index."""
        check_number(index, 0, len(self._steps) - 1)
        return self.with_all(self._steps[:index] + self._steps[index + 1:])

    def part(self, first, last):
        """The row of the steps from the first index on and below the last one."""
        check_number(first, 0, len(self._steps))
        check_number(last, first, len(self._steps))
        return self.with_all(self._steps[first:last])

    def backwards(self):
        """The row with the last step first."""
        return self.with_all(self._steps[::-1])

    def renamed(self, names):
        """The row in which each place x is names[x]."""
        if not is_deed(names) or len(names) != self._places:
            raise InvalidOperation("the names must be a tuple with each place once")
        return self.with_all(tuple([_step_named(step, names) for step in self._steps]))

    def owned(self, owners):
        """The row with the same exchanges, and other owners, told by a string."""
        check_owners(self, owners)
        return self.with_all(tuple([(step[0], step[1], owner) for step, owner in zip(self._steps, owners)]))

    def wider(self, places):
        """The row of the same steps with so many places."""
        check_number(places, self._places, MAX_PLACES)
        return Row(places, self._steps)

    def with_all(self, steps):
        """The row with as many places and these steps, which are known to be steps of such a row."""
        made = Row(self._places)
        made._steps = steps
        return made

    def __add__(self, other):
        if not isinstance(other, Row) or other._places != self._places:
            raise InvalidOperation("the other value must be a row with as many places")
        if len(self._steps) + len(other._steps) > MAX_STEPS:
            raise TooMany(MAX_STEPS)
        return Row(self._places, self._steps + other._steps)

    def __getitem__(self, at):
        check_number(at, 0, len(self._steps) - 1)
        return self._steps[at]

    def __contains__(self, x):
        return is_step(self._places, x) and x in self._steps

    def __len__(self):
        return len(self._steps)

    def __iter__(self):
        return iter(self._steps)

    def __eq__(self, other):
        return isinstance(other, Row) and self._places == other._places and self._steps == other._steps

    def __str__(self):
        return f"row of {self._places} places, {len(self._steps)} steps"


def check_row(row):
    """Raise InvalidRow unless the value is a row."""
    if not isinstance(row, Row):
        raise InvalidRow("this is no row")


def check_owners(row, owners):
    """Raise InvalidOperation unless the value is a string with one letter for each step of the row."""
    if not isinstance(owners, str) or len(owners) != len(row) or not all([is_owner(letter) for letter in owners]):
        raise InvalidOperation("the owners must be a string with one letter from a to z for each step")
