"""Values and checks that several tests share."""

import unittest

from renamedown.errors import InvalidNumber, NoWay, ParseError
from renamedown.rows.rows import Row
from renamedown.text.shell import Shell
from renamedown.use.desk import Desk

TRIO = Row(3, ((0, 1, "a"), (1, 2, "b")))
TWINS = Row(5, ((0, 1, "a"), (3, 4, "b"), (0, 1, "c")))
LOOP = Row(4, ((0, 1, "a"), (1, 2, "b"), (2, 3, "a"), (0, 3, "b")))
FULL = Row(12, tuple((k % 11, k % 11 + 1, "abc"[k % 3]) for k in range(24)))

LONG = 10 ** 200  # the least integer of 201 digits
LONGEST = LONG - 1  # the greatest one of 200 digits


def nested(value):
    """The value in tuples, lists and dicts, eight deep."""
    for _ in range(4):
        value = ((value,),)
    return value


# Values of all the kinds that any argument can have, wrong ones for nearly each parameter.
STRANGE = (
    None, True, False, "", "a", "Z", "ab", "0", "on", "0 1 a", "(0)", "~" * 8000, "\n", "1" * 8000,
    0, 1, 2, -1, 13, 25, LONG, -LONG, LONGEST, -LONGEST, 10 ** 249, -(10 ** 249),
    (), (0,), (0, 1), (1, 0), (True, 0), (0, True), (0, 0), (0, 1, "a"), (0, "a"), (LONG, 0), (0, None),
    ((),), ((0,),), ((0, 1),), ((0, 1, "a"),), ((0, 1, "A"),), ((0, "on"),), ((0, True),), (("on", 0),),
    (None, None, None), ([], {}), ([0], [1]), ({}, {}, {}), (TRIO,), (TRIO, TRIO, TRIO), ((TRIO, TRIO),),
    ((0, 1), ((0, 1),), ("",)), ((0, 1), ((0, 1),), ("aa",)), ((0,), ((0,),), ([],)),
    [], [0], [0, 1], [(0, 1, "a")], [[[[]]]], {}, {0: 1}, {"a": (1, [2])}, {(0, 1): None},
    nested(0), nested("a"), nested([{}]),
    TRIO, TWINS, LOOP, Row(1), Row(12), InvalidNumber(3), NoWay((1, 2)), ParseError(None),
    Desk(LOOP), Shell(Desk(TRIO)),
)


def all_but(*right):
    """The strange values other than these; True is another value than 1 here."""
    return [value for value in STRANGE if repr(value) not in [repr(one) for one in right]]


class Case(unittest.TestCase):
    """A test case that asks for errors of just one class."""

    def told(self, kind, call, *args, **more):
        """The error of just this class that the call raises."""
        with self.assertRaises(kind) as seen:
            call(*args, **more)
        self.assertIs(type(seen.exception), kind)
        return seen.exception

    def refused(self, call, *args, **more):
        """Check that the call raises InvalidNumber, and return what the error keeps."""
        return self.told(InvalidNumber, call, *args, **more).value

    def judged(self, call, *args):
        """Check that a function judges every strange value, and return those which it accepts."""
        accepted = []
        for value in STRANGE:
            answer = call(*args, value)
            self.assertIs(type(answer), bool, (call, value))
            if answer:
                accepted.append(value)
        return accepted
