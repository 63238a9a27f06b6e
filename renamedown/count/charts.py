"""Charts: integers for the rows of a class, and the moves from row to row."""

from renamedown.base.words import exchange_behind
from renamedown.moves.passings import undone
from renamedown.rows.webs import groups_of


def _changes_of(exchanges, owners, width):
    """For the bits of each two neighbouring steps what passing on, and passing back, adds to them.

    A step has the index of its exchange times the number of owners, and more for its owner, in so many bits. What is
    the same for both ways stands there once.
    """
    changes = {}
    for first, one in enumerate(exchanges):
        for second, other in enumerate(exchanges):
            third = exchanges.index(exchange_behind(one, other))
            for step in range(first * owners, first * owners + owners):
                for later in range(second * owners, second * owners + owners):
                    bits = (step << width) + later
                    if third == first:
                        changes[bits] = ((later << width) + step - bits,)
                    else:
                        on = (later << width) + step + (third - first) * owners
                        back = ((later + (third - second) * owners) << width) + step
                        changes[bits] = (on - bits, back - bits)
    return changes


class Chart:
    """Integers for the rows of a class, in the order of their steps.

    Each step has so many bits, those of the first step being the highest ones.
    """

    def __init__(self, row):
        exchanges = sorted([(a, b) for group in groups_of(row) for a in group for b in group if a < b])
        owners = sorted(set([step[2] for step in row.steps]))
        self._kinds = [exchange + (owner,) for exchange in exchanges for owner in owners]
        self._width = len(self._kinds).bit_length()
        self._mask = (1 << 2 * self._width) - 1
        self._changes = _changes_of(exchanges, len(owners), self._width)
        # For each move how far the bits of its two steps stand from the lowest ones.
        self._shifts = [self._width * index for index in range(len(row) - 2, -1, -1)]
        self._many = len(row)

    def number_of(self, steps):
        """The integer for a row with these steps."""
        number = 0
        for step in steps:
            number = (number << self._width) + self._kinds.index(step)
        return number

    def steps_of(self, number):
        """The steps of the row with this integer."""
        mask = (1 << self._width) - 1
        shifts = [self._width * index for index in range(self._many - 1, -1, -1)]
        return tuple([self._kinds[(number >> shift) & mask] for shift in shifts])

    def _next_level(self, levels):
        """The dict of those to which a move leads from the last level, and which are in no level yet."""
        mask, changes, shifts, last = self._mask, self._changes, self._shifts, levels[-1]
        before = levels[-2] if len(levels) > 1 else {}
        near = {number + (change << shift): True for number in last for shift in shifts
                for change in changes[(number >> shift) & mask]}
        # Each move can be taken back, so no move leads from the last level to those ahead of these two.
        return {number: True for number in near if number not in last and number not in before}

    def levels_from(self, steps):
        """For each distance the dict of those at this distance from the row with these steps."""
        levels = [{self.number_of(steps): True}]
        while levels[-1] != {}:
            levels.append(self._next_level(levels))
        return levels[:-1]

    def _moves_from(self, number):
        """The pairs of a move and of the integer to which it leads."""
        found = []
        for index, shift in enumerate(self._shifts):
            changes = self._changes[(number >> shift) & self._mask]
            found.append(((index, "on"), number + (changes[0] << shift)))
            found.append(((index, "back"), number + (changes[-1] << shift)))
        return found

    def _moves_down(self, levels, number):
        """Moves from an integer of the last level to that of the first one."""
        moves = []
        for level in levels[-2::-1]:
            move, number = [(made, near) for made, near in self._moves_from(number) if near in level][0]
            moves.append(move)
        return tuple(moves)

    def way_between(self, steps, others):
        """As few moves as possible from the row with the one steps to that with the other ones, to which it leads."""
        ahead, behind = [{self.number_of(steps): True}], [{self.number_of(others): True}]
        common = [number for number in ahead[0] if number in behind[0]]
        while common == []:
            grown, met = (ahead, behind) if len(ahead[-1]) <= len(behind[-1]) else (behind, ahead)
            grown.append(self._next_level(grown))
            common = [number for number in grown[-1] if number in met[-1]]
        return undone(self._moves_down(ahead, common[0])) + self._moves_down(behind, common[0])
