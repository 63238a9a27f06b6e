"""A trail: steps that pass one another, and the moves that were made."""

from renamedown.moves.making import passed
from renamedown.moves.passings import leading_moves, other_way


class Trail:
    """The steps of a row, which pass one another move by move."""

    def __init__(self, row):
        self.start = row
        self.now = list(row.steps)
        self.made = []

    def make(self, index, way):
        """Make a move."""
        self.now[index], self.now[index + 1] = passed(self.now[index], self.now[index + 1], way)
        # A move that takes the last one back shortens the trail instead.
        if len(self.made) > 0 and self.made[-1] == (index, other_way(way)):
            self.made.pop()
        else:
            self.made.append((index, way))

    def lead(self, source, target, renamed):
        """Lead a step from one index to another one."""
        for index, way in leading_moves(source, target, renamed):
            self.make(index, way)

    def lead_double(self, source, target):
        """Lead the double at one index to another one, so that it renames nothing in the end."""
        for index in range(source, target):
            self.make(index + 1, "back")
            self.make(index, "back")
        for index in range(source - 1, target - 1, -1):
            self.make(index, "on")
            self.make(index + 1, "on")

    def rename_double(self, index, other):
        """Lead the double at an index past the step `other`, which renames it; return its new index."""
        if other > index:
            self.lead_double(index, other - 2)
            self.make(other - 1, "on")
            self.make(other - 2, "on")
            return other - 1
        self.lead_double(index, other + 1)
        self.make(other, "back")
        self.make(other + 1, "back")
        return other

    def exchange_at(self, index):
        """The exchange of the step with an index."""
        return self.now[index][:2]

    def meet_at(self, one, other):
        """Whether two steps have a place in common."""
        return self.now[one][0] in self.exchange_at(other) or self.now[one][1] in self.exchange_at(other)

    def swap_owners(self, one, other):
        """Exchange the owners of two steps, the lesser index first, that have a place in common."""
        many = 1 if self.exchange_at(one) == self.exchange_at(other) else 3
        self.lead(other, one + 1, False)
        for _ in range(many):
            self.make(one, "on")
        self.lead(one + 1, other, False)

    def end_row(self):
        """The row behind all moves."""
        return self.start.with_all(tuple(self.now))

    def all_moves(self):
        """The tuple of all moves."""
        return tuple(self.made)
