"""The examples of the document, literally, and the names of its interface."""

import doctest
import inspect
import re
import unittest
from importlib import import_module

from tests.common import LOOP, TRIO, TWINS

STAGE_1 = r"""
>>> [is_count(-1), is_owner("ab"), is_exchange(3, (0, 2)), is_exchange(3, (2, 0)), is_exchange(3, (0, 3)), is_step(3, (0, 2, "a")), is_step(3, (0, 2))]
[False, False, True, False, False, True, False]
>>> [renamed_exchange((0, 1), (1, 2)), renamed_exchange((0, 1), (2, 3)), renamed_exchange((0, 1), (0, 1)), renamed_exchange((1, 3), (0, 3))]
[(0, 2), (0, 1), (0, 1), (0, 1)]
"""

STAGE_2 = r"""
>>> [rings_of((2, 0, 1, 3)), ring_lengths((2, 0, 1, 3)), deed_of_rings(4, ((1, 0, 2),)), behind((1, 0, 2), (0, 2, 1)), back_of((2, 0, 1)), power_of((2, 0, 1), -4)]
[((0, 2, 1), (3,)), (1, 3), (2, 0, 1, 3), (2, 0, 1), (1, 2, 0), (1, 2, 0)]
>>> [order_of((1, 0, 3, 4, 2)), least_steps((1, 0, 3, 4, 2)), is_even((2, 0, 1)), is_even((1, 0)), renamed_deed((1, 0, 2), (2, 1, 0)), any_names((1, 0, 2), (1, 2, 0))]
[6, 3, True, False, (0, 2, 1), None]
>>> [count_deeds((1, 3)), deed_at(3, 3), index_of((2, 0, 1, 3)), write_deed((2, 0, 1, 3)), read_deed("(0 2 1)(3)"), exchange_deed(3, (0, 2)), rest_deed(2)]
[8, (1, 2, 0), 12, '(0 2 1)(3)', (2, 0, 1, 3), (2, 1, 0), (0, 1)]
"""

STAGE_3 = r"""
>>> [TRIO.deed, TRIO.path(0), TRIO.thing_at(0, 1), TRIO.lines, TRIO.owners, LOOP.deed, LOOP.owners, str(LOOP)]
[(2, 0, 1), (0, 1, 2), 1, ('0 1 a', '1 2 b'), {'a': 1, 'b': 1}, (0, 3, 1, 2), {'a': 2, 'b': 2}, 'row of 4 places, 4 steps']
>>> [TRIO.with_step(1, (0, 2, "c")).exchanges, LOOP.part(1, 3).steps, TRIO.backwards().deed, TRIO.renamed((2, 1, 0)).steps, TRIO.owned("xy")[1]]
[((0, 1), (0, 2), (1, 2)), ((1, 2, 'b'), (2, 3, 'a')), (1, 2, 0), ((1, 2, 'a'), (0, 1, 'b')), (1, 2, 'y')]
>>> [(TRIO + TRIO).deed, TRIO.wider(5).deed, (1, 2, "b") in TRIO, (1, 2) in TRIO, len(Row(4)), Row.from_lines(3, ("0 1 a", "1 2 b")) == TRIO]
[(1, 2, 0), (2, 0, 1, 3, 4), True, False, 0, True]
"""

STAGE_4 = r"""
>>> [groups_of(TWINS), group_of(TWINS, 4), is_joined(TWINS), is_joined(LOOP), steps_in(TWINS, (0, 1)), owner_counts(LOOP, (0, 1, 2, 3)), handles_of(TWINS, (0, 1))]
[((0, 1), (2,), (3, 4)), (3, 4), False, True, (0, 2), {'a': 2, 'b': 2}, 0]
>>> [rings_in(LOOP, (0, 1, 2, 3)), handles_of(LOOP, (0, 1, 2, 3)), [len(part) for part in split(TWINS)], bridges(TWINS), bridges(LOOP), bridges(TRIO)]
[((0,), (1, 3, 2)), 0, [2, 0, 1], (1,), (), (0, 1)]
>>> [equal_pairs(TWINS), equal_pairs(Row(2, ((0, 1, "a"),) * 3)), is_tree(LOOP, (0, 1, 3)), is_tree(LOOP, (0, 1)), count_trees(LOOP), count_trees(TWINS)]
[(), (0, 1), True, False, 4, 2]
"""

STAGE_5 = r"""
>>> [pass_on(TRIO, 0).steps, pass_back(TRIO, 0).steps, period_at(TRIO, 0), period_at(TWINS, 0), undone(((0, "on"), (3, "back")))]
[((1, 2, 'b'), (0, 2, 'a')), ((0, 2, 'b'), (0, 1, 'a')), 6, 2, ((3, 'on'), (0, 'back'))]
>>> [after_moves(TWINS, ((0, "on"), (1, "on"))).steps, turned_over(TRIO, 0, many=3).steps, len(only_on(((0, "back"), (1, "on"))))]
[((3, 4, 'b'), (0, 1, 'c'), (0, 1, 'a')), ((0, 1, 'b'), (1, 2, 'a')), 6]
>>> [led(LOOP, 3, 1)[0].steps, led(LOOP, 3, 1)[1], led(LOOP, 0, 2, renamed=True)[0].steps, is_moves(TRIO, ((1, "on"),))]
[((0, 1, 'a'), (0, 3, 'b'), (1, 2, 'b'), (0, 2, 'a')), ((2, 'on'), (1, 'on')), ((1, 2, 'b'), (2, 3, 'a'), (0, 3, 'a'), (0, 3, 'b')), False]
"""

STAGE_6 = r"""
>>> [sign_of(TWINS), singles_of((2, 0, 1)), singles_of((0, 3, 1, 2)), plain_row(TRIO).steps, is_plain(TRIO)]
[((0, 1, 2, 4, 3), ((0, 1), (2,), (3, 4)), ('ac', '', 'b')), ((0, 1), (1, 2)), ((1, 2), (2, 3)), ((0, 1, 'a'), (1, 2, 'b')), True]
>>> [plain_row(TWINS).steps, plain_row(LOOP).steps, is_sign(((1, 0), ((0, 1),), ("aa",))), after_moves(LOOP, moves_to_plain(LOOP)) == plain_row(LOOP)]
[((0, 1, 'a'), (0, 1, 'c'), (3, 4, 'b')), ((0, 1, 'a'), (0, 1, 'a'), (1, 2, 'b'), (2, 3, 'b')), False, True]
>>> pair = Row(4, ((0, 1, "a"), (0, 1, "b"), (1, 2, "c"), (2, 3, "d")))
>>> [double_led(pair, 0, 2)[0].steps, double_renamed(pair, 0, 2)[0].steps[:2], double_renamed(pair, 0, 3)[0] == pair, is_double_at(pair, 1)]
[((1, 2, 'c'), (2, 3, 'd'), (0, 1, 'a'), (0, 1, 'b')), ((0, 2, 'a'), (0, 2, 'b')), True, False]
"""

STAGE_7 = r"""
>>> swapped = Row(3, ((0, 1, "b"), (1, 2, "a")))
>>> [leads_to(TRIO, swapped), after_moves(TRIO, way_to(TRIO, swapped)) == swapped, leads_to(TRIO, TRIO.backwards()), any_reason(TRIO, TRIO.backwards())[0]]
[True, True, False, 'deed']
>>> apart = Row(5, ((0, 1, "a"), (3, 4, "c"), (0, 1, "b")))
>>> [is_reason(TWINS, apart, ("owner", 4, "b")), is_reason(TWINS, apart, ("owner", 2, "b")), is_reason(TWINS, apart, ("joined", 0, 1)), way_paper(TWINS, apart)[0]]
[True, False, False, 'reason']
>>> [is_way_paper(TRIO, swapped, ("moves", ((0, "on"),) * 3)), is_way_paper(TRIO, swapped, ("moves", ())), classes_of((TRIO, LOOP, swapped, TRIO.backwards()))]
[True, False, ((0, 2), (1,), (3,))]
>>> way_to(TWINS, apart)
raises NoWay
"""

STAGE_8 = r"""
>>> [do_fit(LOOP, "bbaa"), do_fit(TWINS, "abc"), do_fit(TWINS, "cab"), do_fit(TWINS, "cba"), least_owners(LOOP), count_owners(LOOP), count_owners(TWINS)]
[True, True, False, True, 'aabb', 6, 2]
>>> [after_moves(TRIO, exchange_owners(TRIO, 0, 1)).steps, after_moves(LOOP, moves_to_owners(LOOP, "bbaa")) == LOOP.owned("bbaa")]
[((0, 1, 'b'), (1, 2, 'a')), True]
>>> [list(each_owners(TWINS)), owners_at(LOOP, 5), index_of_owners(LOOP, "abab")]
[['abc', 'cba'], 'bbaa', 1]
"""

STAGE_9 = r"""
>>> [count_all((3,), 2), count_all((1, 2), 3), count_joined((1, 2), 3), count_joined((1, 1, 1), 2), count_joined((1,), 0), is_lengths((2, 1))]
[3, 9, 8, 0, 1, False]
>>> [count_flat((4,)), count_flat((2, 2)), cuts_of((1, 2)), handles_in((1, 2), 5), handles_in((1, 2), 4), all_lengths(4)]
[16, 96, {(1, 1, 1): 1, (3,): 2}, 1, None, ((1, 1, 1, 1), (1, 1, 2), (1, 3), (2, 2), (4,))]
>>> [count_parted((((1, 1), 2), ((2,), 1))), count_parted(()), count_joined((12,), 11) == 12 ** 10]
[3, 1, True]
"""

STAGE_10 = r"""
>>> [class_size(TRIO), class_size(TWINS), class_size(LOOP), class_size(Row(3, ())), first_counts(TRIO), place_in_class(TRIO)]
[6, 6, 486, 1, {(0, 1): 2, (0, 2): 2, (1, 2): 2}, 0]
>>> [row.steps for row in class_rows(TWINS)][:2]
[((0, 1, 'a'), (0, 1, 'c'), (3, 4, 'b')), ((0, 1, 'a'), (3, 4, 'b'), (0, 1, 'c'))]
>>> [distance(TRIO, Row(3, ((0, 1, "b"), (1, 2, "a")))), farthest(TRIO), distance(TRIO, Row(3, ((0, 1, "a"), (1, 2, "a")))), is_shortest_way(TRIO, TRIO, ())]
[3, 3, None, True]
"""

STAGE_11 = r"""
>>> wish = wish_of(TWINS)
>>> [wish, can_be(wish), wish_of(row_for(wish)) == wish, wish_paper(((1, 0), ((0, 1),), ({"a": 2},)))]
[((0, 1, 2, 4, 3), ((0, 1), (2,), (3, 4)), ({'a': 1, 'c': 1}, {}, {'b': 1})), True, True, ('odd', (0, 1))]
>>> [reasons_against(((1, 0, 2), ((0,), (1, 2)), ({"a": 1}, {}))), least_numbers((0, 1, 2, 3), ((0, 1, 2, 3),)), least_numbers((1, 2, 3, 0), ((0, 1, 2, 3),))]
[(('apart', 0), ('apart', 1), ('alone', (0,))), (6,), (3,)]
>>> [row_with(wish, 2, (0, 1, "c")).steps[2], wish_of(row_with(wish_of(LOOP), 0, (1, 3, "a"))) == wish_of(LOOP), is_wish_paper(wish, ("row", TWINS))]
[(0, 1, 'c'), True, True]
>>> row_with(wish, 0, (3, 4, "a"))
raises NoWay
"""

STAGE_12 = r"""
>>> [count_least((1, 2, 0)), least_tuples((1, 2, 0)), count_least((1, 0, 3, 2)), least_tuples((0, 1)), is_least((1, 2, 0), ((0, 2), (0, 1)))]
[3, (((0, 1), (0, 2)), ((0, 2), (1, 2)), ((1, 2), (0, 1))), 2, ((),), False]
>>> [is_uncrossed((0, 1, 2, 3), ((0, 1), (0, 2), (1, 3))), rules_of((0, 1, 2), ((0, 1), (0, 2))), len(uncrossed_trees((0, 1, 2, 3)))]
[False, (((0, 1), (0, 2)),), 12]
>>> [count_orders((0, 1, 2, 3), ((0, 1), (0, 2), (2, 3))), any_order((0, 1, 2, 3), ((0, 1), (1, 2), (2, 3))), count_least((1, 2, 3, 4, 5, 0))]
[2, ((2, 3), (1, 2), (0, 1)), 1296]
>>> least_row((1, 0, 2), ("z",)) == Row(3, ((0, 1, "z"),))
True
"""

STAGE_13 = r"""
>>> [code_of(3, ((0, 1), (0, 2))), exchanges_of(3, (0, 1)), exchanges_of(3, (1, 0)), is_code(4, (2, 0, 0)), is_code(4, (2, 1, 1)), count_codes(4)]
[(0, 0), ((0, 2), (1, 2)), ((1, 2), (0, 1)), True, False, 16]
>>> [code_at(3, 2), index_of(4, (0, 0, 2)), count_behind(4, (2,)), list(each_code(3)), exchanges_of(5, (1, 0, 1, 0)), turned_code(3, (0, 0))]
[(1, 0), 2, 3, [(0, 0), (0, 1), (1, 0)], ((1, 2), (0, 3), (1, 3), (0, 4)), (0, 1)]
>>> [count_codes(12) == 12 ** 10, exchanges_of(1, ()), exchanges_of(2, (0,)), code_at(6, 1295)]
[True, (), ((0, 1),), (4, 3, 2, 1, 0)]
"""

STAGE_14 = r"""
>>> [kind_of(TWINS), kind_of(LOOP)]
[((1, (1,), ()), (2, (1, 1), (('a', 1), ('c', 1))), (2, (2,), (('b', 1),))), ((4, (1, 3), (('a', 2), ('b', 2))),)]
>>> [are_alike(TRIO, TRIO.backwards()), is_likeness(TRIO, TRIO.backwards(), (0, 2, 1)), count_own(TRIO), count_own(TWINS), count_own(Row(4)), is_own(TRIO, (2, 0, 1))]
[True, True, 3, 4, 24, True]
>>> [repeated(TRIO, 3).deed, sent_back(LOOP, 1).steps, is_likeness(LOOP, sent_back(LOOP, 1), (1, 0, 2, 3)), any_likeness(TRIO, Row(3))]
[(0, 1, 2), ((1, 2, 'b'), (2, 3, 'a'), (0, 3, 'b'), (0, 1, 'a')), True, None]
"""

STAGE_15 = r"""
>>> desk = Desk(LOOP)
>>> [desk.lock(1), desk.free_moves, desk.pass_on(0), desk.locks, desk[1], desk.pass_back(2), desk.row.steps]
[None, ((0, 'on'), (1, 'back'), (2, 'back'), (2, 'on')), None, (0,), (0, 2, 'a'), None, ((1, 2, 'b'), (0, 2, 'a'), (0, 2, 'b'), (2, 3, 'a'))]
>>> [desk.is_reached(LOOP), desk.undo(many=2), desk.lead(3, 0, renamed=True), desk.locks, desk[0], desk.changes, str(desk)]
[True, None, None, (2,), (0, 1, 'b'), 2, 'desk of 4 steps, 1 locks']
>>> desk.take(2)
raises Locked
>>> desk.lead(0, 3)
raises Locked
"""

STAGE_16 = r"""
>>> [write_row(TRIO), read_row("2 places\n0 1 z") == Row(2, ((0, 1, "z"),)), write_moves(((0, "on"), (3, "back"))), read_moves("nothing"), write_paper(("reason", ("joined", 0, 3)))]
['3 places\n0 1 a\n1 2 b', True, '0 on\n3 back', (), 'reason joined 0 3']
>>> [write_paper(("moves", ())), read_paper("moves\n1 back"), read_paper("reason owner 4 b")]
['moves\nnothing', ('moves', ((1, 'back'),)), ('reason', ('owner', 4, 'b'))]
"""

SHELL = r"""
>>> shell = Shell(Desk(LOOP))
>>> [shell("row"), shell("deed"), shell("groups"), shell("path 0"), shell("class"), shell("settled"), shell("lock 1"), shell("moves"), shell("back 0")]
['0 1 a; 1 2 b; 2 3 a; 0 3 b', '(0)(1 3 2)', '0 1 2 3', '0 1 2 3 0', '486', 'no', 'ok', '0 on; 1 back; 2 back; 2 on', 'locked 1 2 b']
>>> [shell("on 0"), shell("locks"), shell("reached 0 1 a; 1 2 b; 2 3 a; 0 3 b"), shell("reached none"), shell("own 1 b"), shell("undo 4"), shell("on 3"), shell("Row"), str(shell)]
['ok', '0', 'yes', 'no', 'ok', 'nothing', 'number', 'what', 'shell of desk of 4 steps, 1 locks']
"""

STAGE_17 = r"""
>>> [lies_in((1, 0, 2), (1, 2, 0)), rest_of((1, 0, 2), (1, 2, 0)), lies_in((2, 0, 1), (1, 2, 0)), any_apartness((2, 0, 1), (1, 2, 0))[0], lies_in((0, 1, 2), (0, 1, 2))]
[True, (2, 1, 0), False, 'round', True]
>>> [is_apartness((2, 3, 0, 1), (1, 2, 3, 0), ("cross", 0, 1, 2, 3)), is_apartness((1, 0), (0, 1), ("apart", 0, 1)), count_within((1, 2, 3, 0)), count_by_steps((1, 2, 3, 0))]
[True, True, 14, (1, 6, 6, 1)]
>>> [deeds_within((1, 2, 0)), count_within((1, 0, 3, 2)), is_between_paper((1, 0, 2), (1, 2, 0), ("way", ((0, 1), (0, 2)))), between_paper((1, 0), (0, 1))]
[((0, 1, 2), (0, 2, 1), (1, 0, 2), (1, 2, 0), (2, 1, 0)), 4, True, ('reason', ('apart', 0, 1))]
"""

STAGE_18 = r"""
>>> round_four = (1, 2, 3, 0)
>>> [meet(round_four, (1, 2, 0, 3), (0, 2, 3, 1)), join(round_four, (2, 1, 0, 3), (0, 3, 2, 1)), meet(round_four, (2, 1, 0, 3), (0, 3, 2, 1)), join(round_four, (1, 0, 2, 3), (0, 1, 3, 2))]
[(0, 2, 1, 3), (1, 2, 3, 0), (0, 1, 2, 3), (1, 0, 3, 2)]
>>> [mate_behind((1, 2, 0), (1, 0, 2)), mate_ahead((1, 2, 0), (1, 0, 2)), mate_behind((1, 2, 0), mate_behind((1, 2, 0), (1, 0, 2))), count_rises((1, 2, 0), 2)]
[(2, 1, 0), (0, 2, 1), (0, 2, 1), 12]
>>> [chain_of((1, 2, 0), ((0, 1), (0, 2))), exchanges_between((1, 2, 0), ((0, 1, 2), (2, 1, 0), (1, 2, 0))), balance((1, 2, 0), (0, 1, 2)), balance((1, 2, 0), (1, 0, 2))]
[((0, 1, 2), (1, 0, 2), (1, 2, 0)), ((0, 2), (1, 2)), 2, -1]
>>> [rises((1, 0), 1), count_rises((1, 2, 3, 4, 5, 0), 1), count_rises((0, 1, 2), 20), is_rise((1, 2, 0), ((1, 0, 2), (1, 0, 2)))]
[(((0, 1),), ((1, 0),)), 132, 1, True]
"""

STAGE_19 = r"""
>>> [count_shares((1, 2, 0), 2), count_shares((1, 2, 0), 3), count_shares((1, 0, 3, 2), 2), all_shares((1, 0), 2), share_behind((1, 2, 0), ((1, 0, 2),))]
[5, 12, 4, (((0, 1), (1, 0)), ((1, 0), (0, 1))), (2, 1, 0)]
>>> [is_shares((1, 2, 0), ((1, 0, 2), (2, 1, 0))), is_shares((0, 1), ((1, 0), (1, 0))), shares_passed((1, 2, 0), ((1, 0, 2), (2, 1, 0)), 0, "on")]
[True, False, ((2, 1, 0), (0, 2, 1))]
>>> [count_kinds(((1, 2), (1, 2))), count_kinds(((1, 1, 2), (1, 3))), count_kinds(((1, 1, 2), (2, 2))), count_kinds(((3,), (3,)))]
[3, 4, 2, 0]
>>> [shares_of(Row(3, ((0, 1, "a"), (0, 2, "b"))), (1,)), shares_of(TRIO, (0, 2)), row_of_shares((0, 1), ((0, 1),)) == (Row(2), ())]
[((1, 0, 2), (2, 1, 0)), ((0, 1, 2), (2, 0, 1), (0, 1, 2)), True]
>>> share_behind((1, 2, 0), ((0, 1, 2), (2, 0, 1)))
raises NoWay
"""

# For each stage its examples, how many lines of input they have, and the modules whose names they use.
EXAMPLES = (
    (STAGE_1, 2, ("renamedown.errors", "renamedown.base.words")),
    (STAGE_2, 3, ("renamedown.base.deeds",)),
    (STAGE_3, 3, ("renamedown.rows.rows",)),
    (STAGE_4, 3, ("renamedown.rows.webs", "renamedown.rows.rows")),
    (STAGE_5, 3, ("renamedown.moves.passings",)),
    (STAGE_6, 4, ("renamedown.moves.plain", "renamedown.moves.passings", "renamedown.rows.rows")),
    (STAGE_7, 6, ("renamedown.rows.rows", "renamedown.moves.passings", "renamedown.decide.ways",)),
    (STAGE_8, 3, ("renamedown.moves.passings", "renamedown.decide.owners",)),
    (STAGE_9, 3, ("renamedown.count.numbers",)),
    (STAGE_10, 3, ("renamedown.rows.rows", "renamedown.count.classes")),
    (STAGE_11, 5, ("renamedown.decide.told",)),
    (STAGE_12, 4, ("renamedown.rows.rows", "renamedown.count.least",)),
    (STAGE_13, 3, ("renamedown.count.codes",)),
    (STAGE_14, 3, ("renamedown.rows.rows", "renamedown.rows.names")),
    (STAGE_15, 5, ("renamedown.use.desk",)),
    (STAGE_16, 2, ("renamedown.rows.rows", "renamedown.text.texts")),
    (SHELL, 3, ("renamedown.use.desk", "renamedown.text.shell")),
    (STAGE_17, 3, ("renamedown.count.between",)),
    (STAGE_18, 5, ("renamedown.count.lattice",)),
    (STAGE_19, 5, ("renamedown.rows.rows", "renamedown.count.shares")),
)

INTERFACE = {
    "renamedown.base.words": (
        "is_integer(value)",
        "is_count(value)",
        "is_owner(value)",
        "is_number_of_places(value)",
        "is_exchange(places, value)",
        "is_step(places, value)",
        "renamed_exchange(one, other)",
    ),
    "renamedown.base.deeds": (
        "is_deed(value)",
        "rest_deed(places)",
        "exchange_deed(places, exchange)",
        "rings_of(deed)",
        "ring_lengths(deed)",
        "deed_of_rings(places, rings)",
        "behind(one, other)",
        "back_of(deed)",
        "power_of(deed, exponent)",
        "order_of(deed)",
        "least_steps(deed)",
        "is_even(value)",
        "renamed_deed(deed, names)",
        "any_names(one, other)",
        "count_deeds(lengths)",
        "deed_at(places, index)",
        "index_of(deed)",
        "write_deed(deed)",
        "read_deed(text)",
    ),
    "renamedown.rows.webs": (
        "groups_of(row)",
        "group_of(row, place)",
        "is_joined(row)",
        "steps_in(row, group)",
        "owner_counts(row, group)",
        "rings_in(row, group)",
        "handles_of(row, group)",
        "split(row)",
        "bridges(row)",
        "equal_pairs(row)",
        "any_tree(row)",
        "is_tree(row, value)",
        "count_trees(row)",
    ),
    "renamedown.moves.passings": (
        "pass_on(row, index)",
        "pass_back(row, index)",
        "is_moves(row, value)",
        "after_moves(row, moves)",
        "rows_along(row, moves)",
        "undone(moves)",
        "only_on(moves)",
        "led(row, source, target, *, renamed=False)",
        "turned_over(row, index, *, many)",
        "period_at(row, index)",
    ),
    "renamedown.moves.plain": (
        "sign_of(row)",
        "is_sign(value)",
        "singles_of(deed)",
        "plain_row(row)",
        "plain_of(sign)",
        "is_plain(row)",
        "moves_to_plain(row)",
        "is_double_at(row, index)",
        "double_led(row, source, target)",
        "double_renamed(row, index, other)",
    ),
    "renamedown.decide.ways": (
        "leads_to(one, other)",
        "way_to(one, other, *, only_on=False)",
        "any_reason(one, other)",
        "is_reason(one, other, value)",
        "way_paper(one, other)",
        "is_way_paper(one, other, value)",
        "classes_of(rows)",
        "round_trip(one, others)",
    ),
    "renamedown.decide.owners": (
        "do_fit(row, owners)",
        "least_owners(row)",
        "exchange_owners(row, one, other)",
        "moves_to_owners(row, owners)",
        "count_owners(row)",
        "each_owners(row)",
        "owners_at(row, index)",
        "index_of_owners(row, owners)",
    ),
    "renamedown.count.numbers": (
        "is_lengths(value)",
        "all_lengths(places)",
        "cuts_of(lengths)",
        "count_all(lengths, steps)",
        "count_joined(lengths, steps)",
        "handles_in(lengths, steps)",
        "count_flat(lengths)",
        "count_parted(parts)",
    ),
    "renamedown.count.classes": (
        "class_size(row)",
        "class_rows(row)",
        "place_in_class(row)",
        "first_counts(row)",
        "distance(one, other)",
        "shortest_way(one, other)",
        "is_shortest_way(one, other, value)",
        "farthest(row)",
    ),
    "renamedown.decide.told": (
        "is_wish(value)",
        "wish_of(row)",
        "can_be(wish)",
        "row_for(wish)",
        "reasons_against(wish)",
        "wish_paper(wish)",
        "is_wish_paper(wish, value)",
        "least_numbers(deed, groups)",
        "row_with(wish, index, step)",
    ),
    "renamedown.count.least": (
        "is_least(deed, value)",
        "count_least(deed)",
        "least_tuples(deed)",
        "least_row(deed, owners)",
        "is_uncrossed(ring, value)",
        "rules_of(ring, tree)",
        "uncrossed_trees(ring)",
        "count_orders(ring, tree)",
        "any_order(ring, tree)",
    ),
    "renamedown.count.codes": (
        "is_code(places, value)",
        "code_of(places, exchanges)",
        "exchanges_of(places, code)",
        "count_codes(places)",
        "code_at(places, index)",
        "index_of(places, code)",
        "count_behind(places, begin)",
        "each_code(places)",
        "turned_code(places, code)",
    ),
    "renamedown.rows.names": (
        "kind_of(row)",
        "are_alike(one, other)",
        "any_likeness(one, other)",
        "is_likeness(one, other, value)",
        "count_own(row)",
        "is_own(row, value)",
        "repeated(row, times)",
        "sent_back(row, times)",
    ),
    "renamedown.text.texts": (
        "write_row(row)",
        "read_row(text)",
        "write_moves(moves)",
        "read_moves(text)",
        "write_paper(paper)",
        "read_paper(text)",
    ),
    "renamedown.count.between": (
        "rest_of(inner, whole)",
        "lies_in(inner, whole)",
        "any_apartness(inner, whole)",
        "is_apartness(inner, whole, value)",
        "between_paper(inner, whole)",
        "is_between_paper(inner, whole, value)",
        "count_within(whole)",
        "count_by_steps(whole)",
        "deeds_within(whole)",
    ),
    "renamedown.count.lattice": (
        "meet(whole, one, other)",
        "join(whole, one, other)",
        "mate_behind(whole, inner)",
        "mate_ahead(whole, inner)",
        "is_rise(whole, value)",
        "count_rises(whole, length)",
        "rises(whole, length)",
        "is_full_chain(whole, value)",
        "chain_of(whole, exchanges)",
        "exchanges_between(whole, chain)",
        "balance(whole, inner)",
    ),
    "renamedown.count.shares": (
        "is_shares(whole, value)",
        "count_shares(whole, many)",
        "all_shares(whole, many)",
        "share_behind(whole, first)",
        "shares_passed(whole, shares, index, way)",
        "shares_of(row, cuts)",
        "row_of_shares(whole, shares)",
        "count_kinds(kinds)",
    ),
}

CONSTANTS = {
    "renamedown.base.words": {"MAX_PLACES": 12, "MAX_STEPS": 24, "MAX_FIGURES": 200},
    "renamedown.rows.rows": {"MAX_PLACES": 12, "MAX_STEPS": 24},
    "renamedown.moves.passings": {"MAX_MOVES": 200000},
    "renamedown.decide.ways": {"MAX_WAY": 200000},
    "renamedown.count.numbers": {"MAX_PLACES": 12, "MAX_STEPS": 24},
    "renamedown.count.classes": {"MAX_CLASS": 5000},
    "renamedown.count.least": {"MAX_LEAST": 5000, "MAX_TREES": 7},
    "renamedown.count.codes": {"MAX_CODES": 7},
    "renamedown.count.between": {"MAX_WITHIN": 5000},
    "renamedown.count.lattice": {"MAX_RISES": 5000, "MAX_LENGTH": 20},
    "renamedown.count.shares": {"MAX_SHARES": 5000},
}

ROW = {
    "__init__": "(self, places, steps=())", "path": "(self, place)", "thing_at": "(self, place, index)",
    "with_step": "(self, index, step)", "without_step": "(self, index)", "part": "(self, first, last)",
    "backwards": "(self)", "renamed": "(self, names)", "owned": "(self, owners)", "wider": "(self, places)",
    "__add__": "(self, other)", "__len__": "(self)", "__iter__": "(self)", "__eq__": "(self, other)",
    "__str__": "(self)",
}

DESK = {
    "__init__": "(self, row)", "pass_on": "(self, index)", "pass_back": "(self, index)",
    "lead": "(self, source, target, *, renamed=False)", "put": "(self, index, step)", "take": "(self, index)",
    "own": "(self, index, owner)", "make_plain": "(self)", "lock": "(self, index)", "unlock": "(self, index)",
    "is_reached": "(self, value)", "undo": "(self, *, many=1)", "twin": "(self)", "trial": "(self)",
    "during": "(self, call)", "__len__": "(self)", "__iter__": "(self)", "__eq__": "(self, other)", "__str__": "(self)",
}

SHELL_METHODS = {"__init__": "(self, desk)", "desk": "(self)", "__str__": "(self)"}


class ExamplesTest(unittest.TestCase):
    def test_each_example_of_each_stage(self):
        for text, many, modules in EXAMPLES:
            names = {"TRIO": TRIO, "TWINS": TWINS, "LOOP": LOOP}
            for module in modules:
                names.update(vars(import_module(module)))
            # The document tells an error by its class alone.
            form = re.sub(r"^raises (\w+)$", r"Traceback (most recent call last):\n\1: ..", text, flags=re.M)
            examples = doctest.DocTestParser().get_doctest(form, names, modules[0], None, 0)
            told = []
            runner = doctest.DocTestRunner(optionflags=doctest.IGNORE_EXCEPTION_DETAIL)
            failed, tried = runner.run(examples, out=told.append)
            self.assertEqual((failed, tried), (0, many), "".join(told))


class InterfaceTest(unittest.TestCase):
    def test_functions_are_defined_in_their_modules_with_their_parameters(self):
        for module, told in INTERFACE.items():
            for form in told:
                name, _, parameters = form.partition("(")
                function = getattr(import_module(module), name)
                self.assertTrue(inspect.isfunction(function), form)
                self.assertEqual(function.__module__, module)
                self.assertEqual(str(inspect.signature(function)), "(" + parameters)

    def test_constants(self):
        for module, told in CONSTANTS.items():
            for name, value in told.items():
                self.assertEqual(getattr(import_module(module), name), value)

    def check_class(self, module, name, methods, properties, operators):
        """Check that the class has all of these in its own body."""
        told = getattr(import_module(module), name)
        self.assertEqual(told.__module__, module)
        for method, parameters in methods.items():
            self.assertEqual(str(inspect.signature(vars(told)[method])), parameters)
        for one in properties:
            self.assertIsInstance(vars(told)[one], property)
        for one in operators:
            self.assertIn(one, vars(told))
        return told

    def test_methods_are_defined_in_the_class_itself(self):
        row = self.check_class("renamedown.rows.rows", "Row", ROW,
                               ("places", "steps", "lines", "exchanges", "owners", "deed"), ("__getitem__", "__contains__"))
        self.assertIsInstance(vars(row)["from_lines"], classmethod)
        self.assertEqual(str(inspect.signature(row.from_lines)), "(places, lines)")
        self.check_class("renamedown.use.desk", "Desk", DESK, ("row", "locks", "wish", "free_moves", "changes"),
                         ("__getitem__", "__contains__"))
        self.check_class("renamedown.text.shell", "Shell", SHELL_METHODS, (), ("__call__",))


if __name__ == "__main__":
    unittest.main()
