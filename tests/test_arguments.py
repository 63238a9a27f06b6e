"""Arguments of all functions: which error comes first [0.4], and that nothing is changed [0.2]."""

import copy
import inspect
import unittest
from importlib import import_module

from renamedown import errors
from renamedown.rows.rows import Row
from renamedown.text.shell import Shell
from renamedown.use.desk import Desk
from tests.common import LONG, LOOP, STRANGE, TRIO
from tests.test_document import INTERFACE

DEED, OTHER = (1, 0, 2), (0, 2, 1)
SWAPPED = Row(3, ((0, 1, "b"), (1, 2, "a")))
WISH = (DEED, ((0, 1), (2,)), ({"b": 2, "a": 1}, {}))
RING, TREE, CODE = (0, 2, 1), ((0, 1), (0, 2)), (2, 0, 0)
PAIR = Row(3, ((0, 1, "a"), (0, 1, "b"), (1, 2, "c")))
WHOLE, INNER = (1, 2, 0), (1, 0, 2)
SHARES = (INNER, (2, 1, 0))
RIGHT = {
    "is_integer": (3,), "is_count": (3,), "is_owner": ("a",), "is_number_of_places": (3,),
    "is_exchange": (3, (0, 1)), "is_step": (3, (0, 1, "a")), "renamed_exchange": ((0, 1), (1, 2)),
    "is_deed": (DEED,), "rest_deed": (3,), "exchange_deed": (3, (0, 1)), "rings_of": (DEED,), "ring_lengths": (DEED,),
    "deed_of_rings": (3, ((0, 1),)), "behind": (DEED, OTHER), "back_of": (DEED,), "power_of": (DEED, 5),
    "order_of": (DEED,), "least_steps": (DEED,), "is_even": (DEED,), "renamed_deed": (DEED, OTHER),
    "any_names": (DEED, OTHER), "count_deeds": ((1, 2),), "deed_at": (3, 4), "index_of": (DEED,),
    "write_deed": (DEED,), "read_deed": ("(0 1)(2)",), "groups_of": (TRIO,), "group_of": (TRIO, 2),
    "is_joined": (TRIO,), "steps_in": (TRIO, (0, 1, 2)), "owner_counts": (TRIO, (0, 1, 2)),
    "rings_in": (TRIO, (0, 1, 2)), "handles_of": (TRIO, (0, 1, 2)), "split": (TRIO,), "bridges": (TRIO,),
    "equal_pairs": (TRIO,), "any_tree": (TRIO,), "is_tree": (TRIO, (0, 1)), "count_trees": (TRIO,),
    "pass_on": (TRIO, 0), "pass_back": (TRIO, 0), "is_moves": (TRIO, ((0, "on"),)),
    "after_moves": (TRIO, ((0, "on"),)), "rows_along": (TRIO, ((0, "on"),)), "undone": (((0, "on"),),),
    "only_on": (((0, "on"),),), "led": (TRIO, 0, 1), "turned_over": (TRIO, 0), "period_at": (TRIO, 0),
    "sign_of": (TRIO,), "is_sign": (((0, 1), ((0, 1),), ("aa",)),), "singles_of": (DEED,), "plain_row": (TRIO,),
    "plain_of": (((0, 1), ((0, 1),), ("aa",)),), "is_plain": (TRIO,), "moves_to_plain": (TRIO,),
    "is_double_at": (PAIR, 0), "double_led": (PAIR, 0, 1), "double_renamed": (PAIR, 0, 2),
    "leads_to": (TRIO, SWAPPED), "way_to": (TRIO, SWAPPED), "any_reason": (TRIO, SWAPPED),
    "is_reason": (TRIO, SWAPPED, ("deed", 1)), "way_paper": (TRIO, SWAPPED),
    "is_way_paper": (TRIO, SWAPPED, ("moves", ())), "classes_of": ((TRIO, LOOP),),
    "round_trip": (TRIO, (SWAPPED, TRIO)), "do_fit": (TRIO, "ba"), "least_owners": (TRIO,),
    "exchange_owners": (TRIO, 0, 1), "moves_to_owners": (TRIO, "ba"), "count_owners": (TRIO,),
    "each_owners": (TRIO,), "owners_at": (TRIO, 1), "index_of_owners": (TRIO, "ba"),
    "is_lengths": ((1, 2),), "all_lengths": (4,), "cuts_of": ((1, 2),), "count_all": ((1, 2), 3),
    "count_joined": ((1, 2), 3), "handles_in": ((1, 2), 3), "count_flat": ((1, 2),),
    "count_parted": ((((1, 2), 3), ((2,), 1)),), "class_size": (TRIO,), "class_rows": (TRIO,),
    "place_in_class": (TRIO,), "first_counts": (TRIO,), "distance": (TRIO, SWAPPED),
    "shortest_way": (TRIO, SWAPPED), "is_shortest_way": (TRIO, SWAPPED, ((0, "on"),) * 3), "farthest": (TRIO,),
    "is_wish": (WISH,), "wish_of": (TRIO,), "can_be": (WISH,), "row_for": (WISH,), "reasons_against": (WISH,),
    "wish_paper": (WISH,), "is_wish_paper": (WISH, ("row", TRIO)), "least_numbers": (DEED, ((0, 1), (2,))),
    "row_with": (WISH, 1, (0, 1, "b")), "is_least": (DEED, ((0, 1),)), "count_least": (DEED,),
    "least_tuples": (DEED,), "least_row": (DEED, ("z",)), "is_uncrossed": (RING, TREE), "rules_of": (RING, TREE),
    "uncrossed_trees": (RING,), "count_orders": (RING, TREE), "any_order": (RING, TREE), "is_code": (4, CODE),
    "code_of": (3, ((0, 1), (0, 2))), "exchanges_of": (4, CODE), "count_codes": (4,), "code_at": (4, 15),
    ("renamedown.count.codes", "index_of"): (4, CODE), "count_behind": (4, (0, 1)), "each_code": (4,),
    "turned_code": (4, CODE), "kind_of": (TRIO,), "are_alike": (TRIO, SWAPPED), "any_likeness": (TRIO, SWAPPED),
    "is_likeness": (TRIO, SWAPPED, (0, 1, 2)), "count_own": (TRIO,), "is_own": (TRIO, (0, 1, 2)), "repeated": (TRIO, 2),
    "sent_back": (TRIO, 5), "write_row": (TRIO,), "read_row": ("3 places\n0 1 a",), "write_moves": (((0, "on"),),),
    "read_moves": ("0 on\n1 back",), "write_paper": (("reason", ("deed", 1)),), "read_paper": ("moves\n1 back",),
    "rest_of": (INNER, WHOLE), "lies_in": (INNER, WHOLE), "any_apartness": (INNER, WHOLE),
    "is_apartness": (INNER, WHOLE, ("apart", 0, 1)), "between_paper": (INNER, WHOLE),
    "is_between_paper": (INNER, WHOLE, ("way", ((0, 1), (0, 2)))), "count_within": (WHOLE,), "count_by_steps": (WHOLE,),
    "deeds_within": (WHOLE,), "meet": (WHOLE, INNER, OTHER), "join": (WHOLE, INNER, OTHER), "mate_behind": (WHOLE, INNER),
    "mate_ahead": (WHOLE, INNER), "is_rise": (WHOLE, (INNER, WHOLE)), "count_rises": (WHOLE, 2), "rises": (WHOLE, 2),
    "is_full_chain": (WHOLE, ((0, 1, 2), INNER, WHOLE)), "chain_of": (WHOLE, ((0, 1), (0, 2))),
    "exchanges_between": (WHOLE, ((0, 1, 2), INNER, WHOLE)), "balance": (WHOLE, INNER), "is_shares": (WHOLE, SHARES),
    "count_shares": (WHOLE, 2), "all_shares": (WHOLE, 2), "share_behind": (WHOLE, (INNER,)),
    "shares_passed": (WHOLE, SHARES, 0, "on"), "shares_of": (Row(3, ((0, 1, "a"), (0, 2, "b"))), (1,)),
    "row_of_shares": (WHOLE, SHARES), "count_kinds": (((1, 2), (1, 2)),),
}
KEYWORDS = {"led": {"renamed": True}, "turned_over": {"many": 7}, "way_to": {"only_on": True}, "lead": {"renamed": True},
            "undo": {"many": 0}}
ROW_CALLS = {
    "path": (2,), "thing_at": (0, 4), "with_step": (4, (1, 3, "z")), "without_step": (3,), "part": (0, 4),
    "backwards": (), "renamed": ((3, 2, 1, 0),), "owned": ("zyxw",), "wider": (5,), "__add__": (LOOP,),
    "__getitem__": (0,),
}
DESK_CALLS = {
    "pass_on": (0,), "pass_back": (2,), "lead": (3, 0), "put": (4, (1, 3, "z")), "take": (3,), "own": (2, "q"),
    "make_plain": (), "lock": (1,), "is_reached": (TRIO,), "undo": (), "__getitem__": (3,),
}
FORMS = (errors.InvalidRow, errors.InvalidDeed, errors.InvalidMoves, errors.InvalidOperation, errors.InvalidPaper,
         errors.ParseError)
# The errors that come behind all others, or that tell that arguments do not go together.
LATE = {"behind": FORMS[3:4], "renamed_deed": FORMS[3:4], "any_names": FORMS[3:4],
        "double_led": FORMS[3:4], "double_renamed": FORMS[3:4], "least_row": FORMS[3:4],
        **dict.fromkeys(("rest_of", "lies_in", "any_apartness", "is_apartness", "between_paper", "is_between_paper", "meet",
                         "join", "mate_behind", "mate_ahead", "balance", "chain_of", "exchanges_between", "share_behind"), FORMS[3:4])}
THEN = (errors.NoWay, errors.TooMany, errors.NothingToUndo, errors.Locked)
FEW = (None, True, -1, 99, LONG, "a", (), (0, 1), [0], {0: 1}, TRIO, LOOP, errors.InvalidNumber(1))


def outcome(call, *arguments, **more):
    """What a call raises: the class and what the error keeps, or None if it raises nothing."""
    try:
        call(*arguments, **more)
    except (errors.InvalidNumber, *FORMS, *THEN) as error:
        return type(error), getattr(error, "value", None)
    return None


def all_of(generator):
    """A function that tells all results of a generator, which raises its errors only when asked."""
    return lambda *arguments: list(generator(*arguments))


def calls():
    """All functions and constructors with right arguments."""
    for module, told in INTERFACE.items():
        for form in told:
            name = form.partition("(")[0]
            call = getattr(import_module(module), name)
            if inspect.isgeneratorfunction(call):
                call = all_of(call)
            yield name, call, RIGHT.get((module, name), RIGHT.get(name)), KEYWORDS.get(name, {})
    yield "Row", Row, (3, ((0, 1, "a"),)), {}
    yield "from_lines", Row.from_lines, (3, ("0 1 a",)), {}
    for name, right in ROW_CALLS.items():
        yield name, getattr(LOOP, name), right, {}
    yield "Desk", Desk, (LOOP,), {}
    for name, right in DESK_CALLS.items():
        yield name, on_a_desk(name), right, KEYWORDS.get(name, {})
    yield "Shell", lambda desk: str(Shell(desk)), (Desk(LOOP),), {}
    yield "shell", Shell(Desk(LOOP)), ("on 9",), {}


def on_a_desk(name):
    """A function that calls a method of a new desk."""
    return lambda *arguments, **more: getattr(Desk(LOOP), name)(*arguments, **more)


def with_one(right, at, value):
    """The arguments with another value at an index."""
    return right[:at] + (value,) + right[at + 1:]


class ArgumentsTest(unittest.TestCase):
    def test_right_arguments_raise_nothing(self):
        for name, call, right, more in calls():
            self.assertIsNone(outcome(call, *right, **more), name)

    def test_wrong_arguments_raise_the_errors_of_the_package(self):
        for name, call, right, more in calls():
            for at in range(len(right)):
                for value in STRANGE:
                    told = outcome(call, *with_one(right, at, value), **more)
                    if told is not None and told[0] is errors.InvalidNumber:
                        self.assertTrue(any(told[1] is one for one in (value, *right)), name)

    def test_the_first_wrong_argument_is_told(self):
        for name, call, right, more in calls():
            for at in range(len(right)):
                for value in FEW:
                    first = outcome(call, *with_one(right, at, value), **more)
                    another_row = isinstance(value, Row) and isinstance(right[at], Row)
                    if first is not None and first[0] not in LATE.get(name, ()) + THEN and not another_row:
                        self.check_later(name, call, with_one(right, at, value), at, first, more)

    def check_later(self, name, call, arguments, at, first, more):
        for later in range(at + 1, len(arguments)):
            for value in FEW:
                self.assertEqual(outcome(call, *with_one(arguments, later, value), **more), first, (name, arguments))
        for keyword in more:
            for value in FEW:
                self.assertEqual(outcome(call, *arguments, **{keyword: value}), first, (name, arguments))

    def test_arguments_are_not_changed(self):
        values = [value for value in STRANGE if isinstance(value, (tuple, list, dict))]
        for name, call, right, more in calls():
            kept = copy.deepcopy([values, WISH])
            before = [str(row) + str(row.steps) for row in (TRIO, LOOP, PAIR)]
            for at in range(len(right)):
                for value in values:
                    outcome(call, *with_one(right, at, value), **more)
            outcome(call, *right, **more)
            self.assertEqual(kept, [values, WISH], name)
            self.assertEqual(list(WISH[2][0]), ["b", "a"])
            self.assertEqual([str(row) + str(row.steps) for row in (TRIO, LOOP, PAIR)], before)

    def test_equal_calls_return_equal_results(self):
        for name, call, right, more in calls():
            once, again = call(*right, **more), call(*right, **more)
            self.assertEqual(once, again, name)
            if isinstance(once, dict):
                once.clear()
                self.assertEqual(call(*right, **more), again)


if __name__ == "__main__":
    unittest.main()
