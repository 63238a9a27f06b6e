"""A desk: its changes, locks, trials and what it tells [15.1]."""

from random import Random

from renamedown.base.words import is_count, is_exchange, is_integer, is_owner, is_step, renamed_exchange
from renamedown.decide.told import wish_of
from renamedown.decide.ways import leads_to
from renamedown.errors import InvalidNumber, InvalidOperation, InvalidRow, Locked, NothingToUndo, TooMany
from renamedown.moves.passings import after_moves, led, pass_back, pass_on
from renamedown.moves.plain import is_plain, plain_row
from renamedown.rows.rows import Row
from renamedown.use.desk import Desk
from tests.common import FULL, LONG, LONGEST, LOOP, STRANGE, TRIO, TWINS, Case
from tests.test_plain import random_row
from tests.test_statements import all_rows, reached
from tests.test_webs import NO_ROWS, PARTED

SAMPLES = (TRIO, TWINS, LOOP, FULL, PARTED, Row(1), Row(12))
NO_INTEGERS = [value for value in STRANGE if not is_integer(value)]
NO_COUNTS = [value for value in STRANGE if not is_count(value)]
KINDS = (InvalidNumber, InvalidOperation, Locked, TooMany, NothingToUndo)


class Model:
    """A desk that is kept as a list of steps, each with its lock, and a list of all that was."""

    def __init__(self, row):
        self.places = row.places
        self.steps = [[a, b, owner, False] for a, b, owner in row.steps]
        self.past = []

    def state(self):
        return [list(step) for step in self.steps]

    def show(self):
        """What a desk must show: its row, its locks and how many changes can be taken back."""
        row = Row(self.places, tuple(tuple(step[:3]) for step in self.steps))
        return row, tuple(at for at, step in enumerate(self.steps) if step[3]), len(self.past)

    def passing(self, index, way):
        """Pass once, or raise the error of a lock."""
        one, other = self.steps[index], self.steps[index + 1]
        moving, still = (one, other) if way == "on" else (other, one)
        exchange = renamed_exchange(tuple(moving[:2]), tuple(still[:2]))
        if moving[3] and exchange != tuple(moving[:2]):
            raise Locked(tuple(moving[:3]))
        moving[:2] = exchange
        self.steps[index:index + 2] = [other, one]

    def do(self, name, *told, renamed=False):
        """Do a call with right arguments; a lock may bar it."""
        before = self.state()
        try:
            if name in ("pass_on", "pass_back"):
                self.passing(*told, name[5:])
            elif name == "lead":
                source, target = told
                up = source < target
                for index in range(source, target) if up else range(source - 1, target - 1, -1):
                    self.passing(index, "on" if up == renamed else "back")
            elif name == "put":
                self.steps.insert(told[0], [*told[1], False])
            elif name == "undo":
                for _ in range(told[0]):
                    self.steps = self.past.pop()
                return
            else:
                self.one_step(name, *told)
        except Locked:
            self.steps = before
            raise
        self.past.append(before)

    def one_step(self, name, index=None, owner=None):
        if name == "make_plain":
            for step in self.steps:
                if step[3]:
                    raise Locked(tuple(step[:3]))
            self.steps = [[*step, False] for step in plain_row(self.show()[0]).steps]
            return
        step = self.steps[index]
        if step[3] and name in ("take", "own"):
            raise Locked(tuple(step[:3]))
        if name == "take":
            self.steps.pop(index)
        elif name == "own":
            step[2] = owner
        else:
            step[3] = name == "lock"


def shown(desk):
    """What a desk shows of itself."""
    return desk.row, desk.locks, desk.changes


def drawn_call(random, desk):
    """A call with right arguments, often of a passing or a lock."""
    many = len(desk)
    index = random.randrange(max(many, 1))
    calls = [("put", (random.randrange(many + 1), drawn_step(random, desk.row.places)), {}),
             ("make_plain", (), {}), ("undo", (random.randrange(min(desk.changes, 3) + 1),), {})]
    if many == 24:
        calls.pop(0)
    if many > 0:
        lock = "unlock" if index in desk.locks else "lock"
        calls += [("take", (index,), {}), ("own", (index, random.choice("abc")), {}), (lock, (index,), {})] * 2
        calls += [("lead", (index, random.randrange(many)), {"renamed": random.random() < 0.5})] * 4
    if many > 1:
        calls += [(name, (random.randrange(many - 1),), {}) for name in ("pass_on", "pass_back")] * 3
    return random.choice(calls)


def drawn_step(random, places):
    a, b = sorted(random.sample(range(places), 2))
    return a, b, random.choice("abc")


def outcome(call, *arguments, **more):
    """What a call returns, or the class of its error and what it keeps."""
    try:
        return call(*arguments, **more)
    except KINDS as error:
        return type(error), vars(error)


def locked_desk(row, locks):
    """A desk with a row and these locks, and one change for each of them."""
    desk = Desk(row)
    for index in locks:
        desk.lock(index)
    return desk


class ModelTest(Case):
    def check_histories(self, random, row, many):
        desk, model = Desk(row), Model(row)
        for _ in range(many):
            name, told, more = drawn_call(random, desk)
            before = shown(desk)
            right = outcome(model.do, name, *told, **more)
            if name == "undo":
                self.assertIsNone(desk.undo(many=told[0]))
            else:
                self.assertEqual(outcome(getattr(desk, name), *told, **more), right, (name, told, more, before))
            self.assertEqual(shown(desk), model.show())
            if right is not None:
                self.assertEqual(shown(desk), before)
            elif name != "undo":
                self.assertEqual(desk.changes, before[2] + 1)

    def test_drawn_histories(self):
        random = Random(151)
        for row in (TRIO, TWINS, LOOP, PARTED, FULL, Row(2), Row(3, ((0, 1, "a"),) * 5), random_row(random, 5, 20, "abc", 2)):
            self.check_histories(random, row, 700)

    def test_free_moves_by_force(self):
        random = Random(152)
        rows = all_rows(3, 4, "a")[::3] + all_rows(4, 4, "a")[::17] + all_rows(4, 3, "ab")[::29] + [TWINS, LOOP, FULL, PARTED]
        for row in rows:
            locks = [index for index in range(len(row)) if random.random() < 0.5]
            desk, free = locked_desk(row, locks), []
            for index in range(len(row) - 1):
                for way in ("back", "on"):
                    at = index + 1 if way == "back" else index
                    other = 2 * index + 1 - at
                    name = renamed_exchange(row.exchanges[at], row.exchanges[other])
                    call = desk.pass_back if way == "back" else desk.pass_on
                    if at not in locks or name == row.exchanges[at]:
                        free.append((index, way))
                    else:
                        self.assertEqual(self.told(Locked, call, index).step, row[at])
            self.assertEqual(desk.free_moves, tuple(free))
            self.assertEqual(shown(desk), (row, tuple(locks), len(locks)))
            for index, way in free:
                twin = desk.twin()
                (twin.pass_back if way == "back" else twin.pass_on)(index)
                self.assertEqual(twin.row, after_moves(row, ((index, way),)))
                self.assertEqual(sorted(twin.row[at] for at in twin.locks), sorted(row[at] for at in locks))


class PassingTest(Case):
    def test_without_locks_a_desk_passes_as_rows_do(self):
        for row in SAMPLES:
            for index in range(len(row) - 1):
                desk = Desk(row)
                self.assertIsNone(desk.pass_on(index))
                self.assertEqual(shown(desk), (pass_on(row, index), (), 1))
                self.assertIsNone(desk.pass_back(index))
                self.assertEqual(shown(desk), (row, (), 2))
                self.assertIsNone(desk.pass_back(index))
                self.assertEqual(desk.row, pass_back(row, index))

    def test_without_locks_a_desk_leads_as_rows_do(self):
        for row in (TRIO, TWINS, LOOP, PARTED, FULL):
            for source in range(len(row)):
                for target in range(len(row)):
                    for renamed in (False, True):
                        desk = Desk(row)
                        self.assertIsNone(desk.lead(source, target, renamed=renamed))
                        self.assertEqual(shown(desk), (led(row, source, target, renamed=renamed)[0], (), 1))
                    desk = Desk(row)
                    desk.lead(source, target)
                    self.assertEqual(desk.row, led(row, source, target)[0])

    def test_a_lock_goes_with_its_step(self):
        desk = locked_desk(LOOP, (1,))
        desk.pass_on(0)
        self.assertEqual((desk.locks, desk[0]), ((0,), (1, 2, "b")))
        desk.pass_back(0)
        self.assertEqual((desk.locks, desk.row), ((1,), LOOP))
        desk.pass_back(1)
        self.assertEqual((desk.locks, desk[2]), ((2,), (1, 2, "b")))

    def test_a_lock_goes_past_what_it_does_not_meet(self):
        desk = locked_desk(TWINS, (1,))
        self.assertEqual(desk.free_moves, ((0, "back"), (0, "on"), (1, "back"), (1, "on")))
        desk.pass_back(0)
        self.assertEqual((desk.locks, desk[0]), ((0,), (3, 4, "b")))
        desk.lead(0, 2, renamed=True)
        self.assertEqual((desk.locks, desk[2]), ((2,), (3, 4, "b")))
        same = locked_desk(Row(2, ((0, 1, "a"), (0, 1, "b"))), (0, 1))
        same.pass_on(0)
        self.assertEqual((same.locks, same.row.steps), ((0, 1), ((0, 1, "b"), (0, 1, "a"))))

    def test_another_step_is_led_past_a_lock(self):
        desk = locked_desk(LOOP, (1,))
        self.assertEqual(self.told(Locked, desk.lead, 0, 3).step, (1, 2, "b"))
        desk.lead(0, 3, renamed=True)
        self.assertEqual((desk.locks, desk[0]), ((0,), (1, 2, "b")))
        desk.lead(3, 0, renamed=True)
        self.assertEqual((desk.locks, desk.row), ((1,), LOOP))
        desk.lead(3, 2)
        self.assertEqual(desk.locks, (1,))
        self.assertEqual(self.told(Locked, desk.lead, 3, 0).step, (1, 2, "b"))

    def test_a_locked_step_is_led(self):
        desk = locked_desk(LOOP, (0,))
        self.assertEqual(self.told(Locked, desk.lead, 0, 1, renamed=True).step, (0, 1, "a"))
        self.assertEqual(self.told(Locked, desk.lead, 0, 3, renamed=True).step, (0, 1, "a"))
        desk.lead(0, 3)
        self.assertEqual((desk.locks, desk[3]), ((3,), (0, 1, "a")))

    def test_the_first_locked_step_is_told_as_it_is_ahead_of_the_call(self):
        row = Row(6, ((0, 1, "a"), (1, 2, "b"), (4, 5, "c"), (0, 2, "d"), (0, 1, "e")))
        desk = locked_desk(row, (0, 1, 2, 3, 4))
        before = shown(desk)
        self.assertEqual(self.told(Locked, desk.lead, 0, 4).step, (1, 2, "b"))
        self.assertEqual(self.told(Locked, desk.lead, 4, 0).step, (0, 2, "d"))
        self.assertEqual(self.told(Locked, desk.lead, 4, 1, renamed=True).step, (0, 1, "e"))
        self.assertEqual(self.told(Locked, desk.lead, 0, 3, renamed=True).step, (0, 1, "a"))
        self.assertEqual(self.told(Locked, desk.pass_on, 0).step, (0, 1, "a"))
        self.assertEqual(self.told(Locked, desk.pass_back, 0).step, (1, 2, "b"))
        self.assertEqual(shown(desk), before)
        desk.lead(2, 0)
        desk.lead(0, 4, renamed=True)
        self.assertEqual(desk.row[4], (4, 5, "c"))

    def test_a_step_that_gets_its_exchange_again_in_between(self):
        row = Row(3, ((0, 1, "a"), (1, 2, "b"), (1, 2, "c")))
        self.assertEqual(led(row, 0, 2, renamed=True)[0][2], (0, 1, "a"))
        desk = locked_desk(row, (0,))
        self.assertEqual(self.told(Locked, desk.lead, 0, 2, renamed=True).step, (0, 1, "a"))

    def test_wrong_indices(self):
        desk = Desk(LOOP)
        for call in (desk.pass_on, desk.pass_back):
            for value in NO_INTEGERS + [-1, 3, 4, LONG, LONGEST]:
                self.assertIs(self.refused(call, value), value)
        for value in NO_INTEGERS + [-1, 4, LONGEST]:
            self.assertIs(self.refused(desk.lead, value, None, renamed=None), value)
            self.assertIs(self.refused(desk.lead, 0, value, renamed=None), value)
        for value in STRANGE:
            if not isinstance(value, bool):
                self.told(InvalidOperation, desk.lead, 0, 3, renamed=value)
        for row in (Row(1), Row(12), TRIO.part(0, 1)):
            self.assertEqual(self.refused(Desk(row).pass_on, 0), 0)
            self.assertEqual(self.refused(Desk(row).pass_back, 0), 0)
        self.assertEqual(shown(desk), (LOOP, (), 0))

    def test_wrong_arguments_are_told_ahead_of_locks(self):
        desk = locked_desk(LOOP, (0, 1, 2, 3))
        self.told(InvalidOperation, desk.lead, 0, 3, renamed=1)
        self.assertEqual(self.refused(desk.lead, 0, 4), 4)
        self.told(InvalidOperation, desk.own, 0, "ab")
        self.assertEqual(self.refused(desk.take, 4), 4)


class StepsTest(Case):
    def test_put(self):
        for row in (TRIO, TWINS, LOOP, Row(12)):
            for index in range(len(row) + 1):
                desk = locked_desk(row, range(len(row)))
                self.assertIsNone(desk.put(index, (0, 2, "z")))
                self.assertEqual(desk.row, row.with_step(index, (0, 2, "z")))
                self.assertEqual(desk.locks, tuple(at for at in range(len(row) + 1) if at != index))
                self.assertEqual(desk.changes, len(row) + 1)

    def test_wrong_puts(self):
        desk = Desk(LOOP)
        for value in NO_INTEGERS + [-1, 5, LONGEST]:
            self.assertIs(self.refused(desk.put, value, None), value)
        for value in [value for value in STRANGE if not is_step(4, value)] + [(0, 4, "a"), (1, 0, "a"), (0, 1, "A")]:
            self.told(InvalidOperation, desk.put, 4, value)
        full = Desk(FULL)
        self.assertEqual(self.told(TooMany, full.put, 24, (0, 1, "a")).limit, 24)
        self.told(InvalidOperation, full.put, 24, (0, 12, "a"))
        self.assertEqual(self.refused(full.put, 25, (0, 1, "a")), 25)
        self.assertEqual([desk.changes, full.changes], [0, 0])

    def test_take(self):
        for row in (TRIO, TWINS, LOOP, FULL):
            for index in range(len(row)):
                desk = locked_desk(row, [at for at in range(len(row)) if at != index])
                for at in desk.locks:
                    self.assertEqual(self.told(Locked, desk.take, at).step, row[at])
                self.assertIsNone(desk.take(index))
                self.assertEqual(shown(desk), (row.without_step(index), tuple(range(len(row) - 1)), len(row)))
        desk = Desk(LOOP)
        for value in NO_INTEGERS + [-1, 4, LONGEST]:
            self.assertIs(self.refused(desk.take, value), value)
        self.assertEqual(self.refused(Desk(Row(3)).take, 0), 0)

    def test_own(self):
        for index in range(4):
            desk = Desk(LOOP)
            self.assertIsNone(desk.own(index, "z"))
            letters = list("abab")
            letters[index] = "z"
            self.assertEqual(shown(desk), (LOOP.owned("".join(letters)), (), 1))
            desk.own(index, "z")
            self.assertEqual(desk.changes, 2)
            desk.lock(index)
            self.assertEqual(self.told(Locked, desk.own, index, "a").step, desk[index])
            self.assertEqual((desk.changes, desk.locks), (3, (index,)))

    def test_own_with_the_owner_that_a_step_has(self):
        desk = locked_desk(LOOP, (1,))
        self.assertIsNone(desk.own(0, "a"))
        self.assertEqual(shown(desk), (LOOP, (1,), 2))
        self.assertEqual(self.told(Locked, desk.own, 1, "b").step, (1, 2, "b"))
        self.assertEqual(shown(desk), (LOOP, (1,), 2))
        desk.unlock(1)
        self.assertIsNone(desk.own(1, "b"))
        self.assertEqual(shown(desk), (LOOP, (), 4))
        one = locked_desk(Row(2, ((0, 1, "a"),)), (0,))
        self.assertEqual(self.told(Locked, one.own, 0, "a").step, (0, 1, "a"))
        self.assertEqual(shown(one), (Row(2, ((0, 1, "a"),)), (0,), 1))

    def test_own_of_a_locked_step_by_force(self):
        for row in SAMPLES:
            for index in range(len(row)):
                desk = locked_desk(row, (index,))
                for owner in "abcdefghijklmnopqrstuvwxyz":
                    self.assertEqual(self.told(Locked, desk.own, index, owner).step, row[index])
                self.assertEqual(shown(desk), (row, (index,), 1))

    def test_wrong_owners(self):
        desk = locked_desk(LOOP, (1,))
        for value in NO_INTEGERS + [-1, 4, LONGEST]:
            self.assertIs(self.refused(desk.own, value, None), value)
        for value in STRANGE:
            if not is_owner(value):
                self.told(InvalidOperation, desk.own, 1, value)
        self.assertEqual(shown(desk), (LOOP, (1,), 1))

    def test_make_plain(self):
        for row in SAMPLES:
            desk = Desk(row)
            self.assertIsNone(desk.make_plain())
            self.assertEqual(shown(desk), (plain_row(row), (), 1))
            desk.make_plain()
            self.assertEqual(shown(desk), (plain_row(row), (), 2))
            self.assertIs(is_plain(desk.row), True)
        desk = locked_desk(LOOP, (3, 1))
        self.assertEqual(self.told(Locked, desk.make_plain).step, (1, 2, "b"))
        desk.unlock(1)
        self.assertEqual(self.told(Locked, desk.make_plain).step, (0, 3, "b"))
        still = locked_desk(plain_row(TRIO), (1,))
        self.assertEqual(self.told(Locked, still.make_plain).step, (1, 2, "b"))
        self.assertEqual(still.changes, 1)

    def test_locks(self):
        desk = Desk(FULL)
        self.assertEqual(desk.locks, ())
        for many, index in enumerate((5, 0, 23, 7)):
            self.assertIsNone(desk.lock(index))
            self.told(InvalidOperation, desk.lock, index)
            self.assertEqual(desk.changes, many + 1)
        self.assertEqual(desk.locks, (0, 5, 7, 23))
        self.assertIsNone(desk.unlock(5))
        self.told(InvalidOperation, desk.unlock, 5)
        self.told(InvalidOperation, desk.unlock, 1)
        self.assertEqual((desk.locks, desk.row, desk.changes), ((0, 7, 23), FULL, 5))
        for call in (desk.lock, desk.unlock):
            for value in NO_INTEGERS + [-1, 24, LONGEST]:
                self.assertIs(self.refused(call, value), value)
            self.assertEqual(self.refused(Desk(Row(2)).lock, 0), 0)

    def test_a_lock_when_steps_are_put_in_or_taken_away_ahead_of_it(self):
        desk = locked_desk(LOOP, (2,))
        desk.put(2, (0, 1, "z"))
        self.assertEqual((desk.locks, desk[3]), ((3,), (2, 3, "a")))
        desk.put(4, (0, 1, "z"))
        self.assertEqual(desk.locks, (3,))
        desk.take(0)
        self.assertEqual((desk.locks, desk[2]), ((2,), (2, 3, "a")))
        desk.take(3)
        self.assertEqual((desk.locks, desk[2]), ((2,), (2, 3, "a")))
        desk.put(0, (0, 1, "z"))
        self.assertEqual((desk.locks, desk[3]), ((3,), (2, 3, "a")))


class UndoTest(Case):
    def changed(self):
        """A desk with many kinds of changes, and what it showed ahead of each of them."""
        desk, seen = Desk(LOOP), []
        calls = [lambda: desk.lock(1), lambda: desk.pass_on(0), lambda: desk.put(0, (0, 2, "q")), lambda: desk.own(0, "q"),
                 lambda: desk.unlock(1), lambda: desk.lead(4, 4), lambda: desk.take(0), lambda: desk.make_plain(),
                 lambda: desk.lead(0, 3, renamed=True), lambda: desk.pass_back(1)]
        for call in calls:
            seen.append(shown(desk))
            call()
        return desk, seen

    def test_each_change_is_taken_back(self):
        desk, seen = self.changed()
        for state in seen[::-1]:
            self.assertIsNone(desk.undo())
            self.assertEqual(shown(desk), state)
        for many in range(len(seen) + 1):
            desk, seen = self.changed()
            now = shown(desk)
            self.assertIsNone(desk.undo(many=many))
            self.assertEqual(shown(desk), (seen + [now])[len(seen) - many])

    def test_one_more_than_all_changes(self):
        desk, seen = self.changed()
        for many in (len(seen) + 1, len(seen) + 2, 10 ** 9, LONGEST):
            self.assertEqual(self.told(NothingToUndo, desk.undo, many=many).many, many)
        self.assertEqual(desk.changes, len(seen))
        desk.undo(many=len(seen))
        self.assertIsNone(desk.undo(many=0))
        self.assertEqual(self.told(NothingToUndo, desk.undo).many, 1)
        self.assertEqual(shown(desk), (LOOP, (), 0))

    def test_wrong_numbers(self):
        desk, _ = self.changed()
        before = shown(desk)
        for value in NO_COUNTS + [-1, LONG]:
            self.assertIs(self.refused(desk.undo, many=value), value)
        self.assertEqual(shown(desk), before)

    def test_changes_behind_an_undo(self):
        desk, seen = self.changed()
        desk.undo(many=4)
        desk.lock(0)
        self.assertEqual(desk.changes, len(seen) - 3)
        desk.undo(many=2)
        self.assertEqual(shown(desk), seen[len(seen) - 5])

    def test_very_many_changes(self):
        desk = Desk(TRIO)
        for _ in range(30000):
            desk.pass_on(0)
        twin = desk.twin()
        desk.undo(many=29999)
        self.assertEqual(shown(desk), (pass_on(TRIO, 0), (), 1))
        self.assertEqual(shown(twin), (TRIO, (), 30000))
        del twin

    def test_a_twin_goes_its_own_way(self):
        desk, seen = self.changed()
        twin = desk.twin()
        self.assertIsNot(twin, desk)
        self.assertEqual((twin == desk, shown(twin)), (True, shown(desk)))
        now = shown(desk)
        twin.undo(many=3)
        twin.lock(0)
        self.assertEqual(shown(desk), now)
        desk.make_plain()
        self.assertEqual(twin.changes, len(seen) - 2)
        desk.undo()
        twin.undo(many=twin.changes)
        self.assertEqual((shown(desk), shown(twin)), (now, (LOOP, (), 0)))
        desk.undo(many=desk.changes)
        self.assertEqual(shown(desk), (LOOP, (), 0))


class TrialTest(Case):
    def test_all_is_as_it_was(self):
        desk = locked_desk(LOOP, (1,))
        before = shown(desk)
        with desk.trial() as same:
            self.assertIs(same, desk)
            desk.pass_on(0)
            same.take(3)
            self.assertEqual((len(desk), desk.changes), (3, 3))
        self.assertEqual(shown(desk), before)
        desk.undo()
        self.assertEqual(shown(desk), (LOOP, (), 0))

    def test_an_error_goes_on(self):
        desk = locked_desk(LOOP, (1,))
        before = shown(desk)
        for error in (KeyError("x"), Locked((0, 1, "a")), KeyboardInterrupt()):
            with self.assertRaises(type(error)) as seen:
                with desk.trial():
                    desk.pass_on(0)
                    raise error
            self.assertIs(seen.exception, error)
            self.assertEqual(shown(desk), before)
        with self.assertRaises(Locked):
            with desk.trial():
                desk.lead(3, 3)
                desk.take(1)
        self.assertEqual(shown(desk), before)

    def test_undo_within_a_block_down_to_the_beginning(self):
        desk = locked_desk(LOOP, (1, 2))
        before = shown(desk)
        with desk.trial():
            desk.pass_on(0)
            desk.undo(many=3)
            self.assertEqual(shown(desk), (LOOP, (), 0))
            self.assertEqual(self.told(NothingToUndo, desk.undo).many, 1)
            desk.make_plain()
        self.assertEqual(shown(desk), before)
        desk.undo(many=2)
        self.assertEqual(shown(desk), (LOOP, (), 0))

    def test_blocks_within_blocks(self):
        desk = Desk(LOOP)
        with desk.trial():
            desk.pass_on(0)
            middle = shown(desk)
            with desk.trial() as same:
                same.undo()
                same.lock(3)
                with same.trial():
                    same.take(0)
                self.assertEqual(shown(desk), (LOOP, (3,), 1))
            self.assertEqual(shown(desk), middle)
            with desk.trial():
                desk.make_plain()
            self.assertEqual(shown(desk), middle)
        self.assertEqual(shown(desk), (LOOP, (), 0))

    def test_a_block_that_is_entered_again(self):
        desk = Desk(LOOP)
        block = desk.trial()
        desk.lock(0)
        for many in range(1, 4):
            with block as same:
                self.assertIs(same, desk)
                desk.pass_back(0)
            self.assertEqual(shown(desk), (LOOP, (0,), many))
            desk.lead(0, 0)

    def test_during(self):
        desk = locked_desk(LOOP, (1,))
        before = shown(desk)
        self.assertEqual(desk.during(lambda same: (same is desk, same.pass_on(0), same.locks)), (True, None, (0,)))
        self.assertEqual(shown(desk), before)
        self.assertEqual(desk.during(len), 4)
        self.assertIs(desk.during(lambda same: same), desk)
        with self.assertRaises(Locked):
            desk.during(lambda same: (same.undo(), same.lock(2), same.take(2)))
        self.assertEqual(shown(desk), before)
        self.assertEqual(desk.during(lambda one: one.during(lambda same: same.undo(many=1)) or one.changes), 1)


class TellingTest(Case):
    def test_what_is_no_row(self):
        for value in NO_ROWS + [Desk(LOOP)]:
            self.told(InvalidRow, Desk, value)

    def test_steps(self):
        for row in SAMPLES:
            desk = Desk(row)
            self.assertEqual((len(desk), list(desk), tuple(desk)), (len(row), list(row.steps), row.steps))
            self.assertEqual([desk[index] for index in range(len(row))], list(row.steps))
            for value in NO_INTEGERS + [-1, len(row), LONG]:
                self.assertIs(self.refused(lambda at: desk[at], value), value)
            for value in STRANGE + row.steps:
                self.assertIs(value in desk, value in row)
        for value in ((0, 1, "a"), (1, 2, "b")):
            self.assertIn(value, Desk(TRIO))
        for value in ((0, True, "a"), (False, 1, "a"), [0, 1, "a"], (0, 1), (0, 1, "b"), TRIO):
            self.assertNotIn(value, Desk(TRIO))

    def test_equal_desks(self):
        desk, other = Desk(LOOP), Desk(LOOP)
        desk.lead(1, 1)
        self.assertTrue(desk == other and not desk != other)
        desk.lock(1)
        self.assertTrue(desk != other and not desk == other)
        other.lock(1)
        self.assertEqual(desk, other)
        self.assertNotEqual(Desk(TRIO), Desk(TRIO.wider(4)))
        for value in STRANGE + (LOOP,):
            self.assertFalse(Desk(Row(8)) == value)
            self.assertTrue(Desk(Row(8)) != value)

    def test_text(self):
        self.assertEqual([str(Desk(Row(3))), str(locked_desk(FULL, (1, 2, 3)))],
                         ["desk of 0 steps, 0 locks", "desk of 24 steps, 3 locks"])

    def test_is_reached_by_force(self):
        for row in (TRIO, TWINS, *all_rows(3, 3, "ab")[::50]):
            desk, found = locked_desk(row, range(len(row))), reached(row)
            for other in all_rows(row.places, len(row), "ab")[::7] + [Row(row.places, steps) for steps in found]:
                self.assertIs(desk.is_reached(other), other.steps in found)
        for other in (LOOP.owned("bbaa"), LOOP.backwards(), LOOP, plain_row(LOOP), TRIO, Row(4), LOOP.wider(5)):
            self.assertIs(Desk(LOOP).is_reached(other), other.places == 4 and leads_to(LOOP, other))

    def test_is_reached_judges_every_value(self):
        self.assertEqual(self.judged(Desk(Row(8)).is_reached), [])
        self.assertEqual(self.judged(locked_desk(TRIO, (0, 1)).is_reached), [TRIO])
        for value in (Desk(LOOP), LOOP.steps, (LOOP,)):
            self.assertIs(Desk(LOOP).is_reached(value), False)

    def test_wish(self):
        for row in SAMPLES:
            desk = Desk(row)
            self.assertEqual(desk.wish, wish_of(row))
        desk = Desk(TWINS)
        desk.pass_on(0)
        self.assertEqual(desk.wish, wish_of(TWINS))
        desk.take(0)
        self.assertEqual(desk.wish, wish_of(desk.row))

    def test_what_is_handed_out_cannot_change_the_desk(self):
        desk = Desk(TWINS)
        for counts in desk.wish[2]:
            counts["z"] = 9
        desk.row.owners.clear()
        self.assertEqual(desk.wish, wish_of(TWINS))
        self.assertEqual((type(desk.locks), type(desk.free_moves), type(desk.row)), (tuple, tuple, Row))
        for name in ("row", "locks", "wish", "free_moves", "changes"):
            with self.assertRaises(AttributeError):
                setattr(desk, name, ())
        with self.assertRaises(TypeError):
            desk[0] = (0, 1, "a")
        row = desk.row
        desk.take(0)
        self.assertEqual(row, TWINS)
        self.assertTrue(all(is_exchange(5, step[:2]) for step in desk))

    def test_a_refused_call_changes_nothing_and_is_no_change(self):
        desk = locked_desk(LOOP, (1,))
        before = shown(desk)
        calls = [(desk.take, (1,), {}), (desk.own, (1, "z"), {}), (desk.make_plain, (), {}), (desk.lead, (0, 3), {}),
                 (desk.pass_back, (0,), {}), (desk.pass_on, (1,), {}), (desk.lock, (1,), {}), (desk.unlock, (0,), {}),
                 (desk.put, (5, (0, 1, "a")), {}), (desk.put, (0, (0, 1)), {}), (desk.undo, (), {"many": 2}),
                 (desk.undo, (), {"many": -1}), (desk.take, (4,), {}), (desk.own, (0, "A"), {}), (desk.lock, (None,), {})]
        for call, told, more in calls:
            self.assertIsNotNone(outcome(call, *told, **more), (call, told))
            self.assertEqual(shown(desk), before)
        desk.undo()
        self.assertEqual(shown(desk), (LOOP, (), 0))
