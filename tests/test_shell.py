"""A shell and its commands [16.3], [16.4]."""

from random import Random

from renamedown.base.deeds import write_deed
from renamedown.count.classes import class_size
from renamedown.decide.ways import leads_to
from renamedown.errors import InvalidNumber, InvalidOperation, InvalidRow, Locked, NothingToUndo, ParseError, TooMany
from renamedown.moves.plain import is_plain, plain_row
from renamedown.rows.rows import Row
from renamedown.rows.webs import groups_of
from renamedown.text.shell import Shell
from renamedown.use.desk import Desk
from tests.common import FULL, LOOP, STRANGE, TRIO, TWINS, Case
from tests.test_desk import SAMPLES, locked_desk, shown
from tests.test_plain import random_row
from tests.test_webs import PARTED

WORDS = {InvalidNumber: "number", InvalidOperation: "operation", InvalidRow: "row", TooMany: "many",
         NothingToUndo: "nothing"}
HUGE = "9" * 5000
FORMS = ("on 0", "back 0", "lead 0 1", "lead 0 1 renamed", "put 0 0 1 a", "take 0", "own 0 z", "plain", "lock 0", "unlock 0",
         "undo 0", "row", "groups", "locks", "moves", "deed", "path 0", "class", "settled", "reached none", "reached 0 1 a")
CALLS = {"on": "pass_on", "back": "pass_back", "lead": "lead", "take": "take", "own": "own", "plain": "make_plain",
         "lock": "lock", "unlock": "unlock"}


def steps_text(steps):
    """The steps as a command tells them."""
    return "; ".join(f"{a} {b} {owner}" for a, b, owner in steps) or "none"


def numbers(values):
    return " ".join(map(str, values))


def told_by_desk(desk, words):
    """The answer to a question, put together from the desk and the functions of the package."""
    row = desk.row
    if words[0] == "path":
        return numbers(row.path(int(words[1])))
    if words[0] == "reached":
        text = " ".join(words[1:])
        parts = [] if text == "none" else [part.split(" ") for part in text.split("; ")]
        other = Row(row.places, tuple((int(a), int(b), owner) for a, b, owner in parts))
        return "yes" if leads_to(row, other) else "no"
    return {"row": steps_text(row.steps), "groups": "; ".join(numbers(group) for group in groups_of(row)),
            "locks": numbers(desk.locks) or "none", "deed": write_deed(row.deed), "class": str(class_size(row)),
            "moves": "; ".join(f"{index} {way}" for index, way in desk.free_moves) or "none",
            "settled": "yes" if is_plain(row) else "no"}[words[0]]


def answer(desk, command):
    """The answer to a command of a right form, from the calls of a desk."""
    words = command.split(" ")
    given = [int(word) if word.isdigit() else word for word in words[1:]]
    try:
        if words[0] == "lead":
            desk.lead(given[0], given[1], renamed=len(given) > 2)
        elif words[0] == "put":
            desk.put(given[0], tuple(given[1:]))
        elif words[0] == "undo":
            desk.undo(many=given[0])
        elif words[0] in CALLS:
            getattr(desk, CALLS[words[0]])(*given)
        else:
            return told_by_desk(desk, words)
        return "ok"
    except Locked as error:
        return "locked " + numbers(error.step)
    except tuple(WORDS) as error:
        return WORDS[type(error)]


def drawn_command(random, desk):
    """A command of a right form, whose numbers are mostly right."""
    number = lambda: random.randrange(len(desk) + 2)
    place = lambda: random.randrange(desk.row.places + (random.random() < 0.2))
    owner = lambda: random.choice("abz")
    kind = random.randrange(24)
    if kind < 8:
        return f"{random.choice(('on', 'back', 'lock', 'unlock', 'on', 'back'))} {number()}"
    if kind < 12:
        return f"lead {number()} {number()}{random.choice(('', ' renamed'))}"
    if kind < 14:
        return f"put {number()} {place()} {place()} {owner()}"
    if kind < 17:
        return random.choice((f"take {number()}", f"own {number()} {owner()}", f"undo {random.randrange(4)}", "plain"))
    if kind < 19:
        steps = list(random.choice((desk.row, plain_row(desk.row))))
        random.shuffle(steps)
        return f"reached {steps_text(steps)}"
    return random.choice(("row", "groups", "locks", "moves", "deed", f"path {place()}", "class", "settled"))


class ShellCase(Case):
    def check_refused(self, shell, command, word):
        """Check that a command is answered by this word, and changes nothing."""
        before = shown(shell.desk())
        self.assertEqual(shell(command), word, command[:80])
        self.assertEqual(shown(shell.desk()), before)


class CommandsTest(ShellCase):
    def test_beside_a_desk_over_drawn_commands(self):
        random = Random(164)
        for row in (TRIO, TWINS, LOOP, PARTED, Row(3), Row(2, ((0, 1, "a"),) * 4), random_row(random, 5, 9, "ab", 2), FULL):
            desk, shell = Desk(row), Shell(Desk(row))
            for _ in range(300):
                command = drawn_command(random, desk)
                right = answer(desk, command)
                self.assertEqual(shell(command), right, command)
                self.assertEqual(shown(shell.desk()), shown(desk))
                self.assertEqual(shell.desk(), desk)

    def test_changes(self):
        calls = {"on 0": lambda desk: desk.pass_on(0), "back 0": lambda desk: desk.pass_back(0),
                 "lead 0 2": lambda desk: desk.lead(0, 2), "lead 0 2 renamed": lambda desk: desk.lead(0, 2, renamed=True),
                 "put 0 0 2 q": lambda desk: desk.put(0, (0, 2, "q")), "take 0": lambda desk: desk.take(0),
                 "own 0 z": lambda desk: desk.own(0, "z"), "plain": lambda desk: desk.make_plain(),
                 "lock 0": lambda desk: desk.lock(0), "unlock 3": lambda desk: desk.unlock(3),
                 "undo 0": lambda desk: desk.undo(many=0), "undo 1": lambda desk: desk.undo()}
        for command, call in calls.items():
            desk = locked_desk(LOOP, () if command == "plain" else (3,))
            desk.lead(0, 0)
            shell, before = Shell(desk), shown(desk)
            call(desk)
            self.assertEqual(shell(command), "ok")
            self.assertEqual(shown(shell.desk()), shown(desk), command)
            self.assertEqual(shown(desk) == before, command == "undo 0")

    def test_questions(self):
        for row in SAMPLES + (plain_row(LOOP),):
            desk = locked_desk(row, range(0, len(row), 2))
            shell = Shell(desk)
            for command in ("row", "groups", "locks", "moves", "deed", "class", "settled", "reached none"):
                self.assertEqual(shell(command), told_by_desk(desk, command.split(" ")))
            for place in range(row.places):
                self.assertEqual(shell(f"path {place}"), numbers(row.path(place)))
            self.assertEqual(shown(shell.desk()), shown(desk))
        empty = Shell(Desk(Row(2)))
        self.assertEqual([empty(command) for command in ("row", "groups", "locks", "moves", "deed", "path 1", "class",
                                                         "settled", "reached none")],
                         ["none", "0; 1", "none", "none", "(0)(1)", "1", "1", "yes", "yes"])
        stuck = Shell(locked_desk(TRIO, (0, 1)))
        self.assertEqual([stuck("moves"), stuck("locks")], ["none", "0 1"])

    def test_reached(self):
        shell = Shell(Desk(LOOP))
        for steps, right in ((LOOP.owned("bbaa").steps, "yes"), (plain_row(LOOP).steps, "yes"), (LOOP.steps[::-1], "no"),
                             (LOOP.steps[:3], "no"), ((), "no"), (FULL.part(0, 3).steps, "no")):
            self.assertEqual(shell(f"reached {steps_text(steps)}"), right)
        self.assertEqual(Shell(Desk(Row(3)))("reached none"), "yes")
        full = Shell(Desk(FULL))
        self.assertEqual(full(f"reached {steps_text(FULL.steps)}"), "yes")
        self.check_refused(full, f"reached {steps_text(FULL.steps + FULL.steps[:1])}", "row")
        self.check_refused(full, f"reached {steps_text(FULL.steps * 30)}", "row")

    def test_locked(self):
        shell = Shell(locked_desk(LOOP, (1, 3)))
        for command, step in (("on 1", "1 2 b"), ("back 0", "1 2 b"), ("lead 0 3", "1 2 b"), ("take 3", "0 3 b"),
                              ("own 1 a", "1 2 b"), ("own 1 b", "1 2 b"), ("own 3 b", "0 3 b"), ("plain", "1 2 b"), ("back 2", "0 3 b")):
            self.check_refused(shell, command, f"locked {step}")
        wide = Shell(locked_desk(Row(12, ((10, 11, "q"),)), (0,)))
        self.check_refused(wide, "take 0", "locked 10 11 q")

    def test_words_of_errors(self):
        shell = Shell(locked_desk(LOOP, (1,)))
        for command in ("on 3", "back 4", "lead 4 0", "lead 0 4", "lead 0 4 renamed", "put 5 0 1 a", "take 4", "own 4 a",
                        "lock 4", "unlock 99", "path 4", f"on {HUGE}", f"back {HUGE}", f"lead 0 {HUGE}", f"undo {HUGE}",
                        f"path {HUGE}", f"put {HUGE} 0 1 a", f"take {HUGE}", f"own {HUGE} a", f"lock {HUGE}",
                        f"undo {'9' * 201}", f"put {HUGE} {HUGE} {HUGE} a"):
            self.check_refused(shell, command, "number")
        for command in ("put 0 1 0 a", "put 4 0 4 a", "put 0 2 2 z", "lock 1", "unlock 0", f"put 0 0 {HUGE} a",
                        f"put 0 {HUGE} 1 a"):
            self.check_refused(shell, command, "operation")
        for command in ("reached 0 4 a", "reached 1 0 a", "reached 0 1 a; 2 2 b", f"reached 0 {HUGE} a", "reached 99 100 z",
                        "reached " + "; ".join(["0 1 a"] * 25)):
            self.check_refused(shell, command, "row")
        for command in ("undo 2", "undo 3", f"undo {'9' * 200}"):
            self.check_refused(shell, command, "nothing")
        self.check_refused(Shell(Desk(FULL)), "put 24 0 1 a", "many")
        self.check_refused(Shell(Desk(FULL)), "put 25 0 1 a", "number")
        self.check_refused(Shell(Desk(FULL)), "put 0 0 12 a", "operation")
        self.check_refused(Shell(Desk(Row(3))), "undo 1", "nothing")

    def test_what_is_no_command(self):
        shell = Shell(locked_desk(LOOP, (1,)))
        wrong = ["", " ", "On 0", "ON 0", "on", "on ", "on  0", " on 0", "on 0 ", "on 00", "on 01", "on -1", "on +1", "on a", "on 0 1",
                 "on 1.0", "on 1_0", "on 0x1", "on 0\n", "on\t0", "\non 0", "on N", "pass_on 0", "lead 0", "lead 0 1 2", "lead 0 1 on",
                 "lead 0 1  renamed", "lead 0 1 renamed ", "lead renamed 0 1", "lead 0 1 Renamed", "put 0 0 1", "put 0 0 1 A",
                 "put 0 0 1 ab", "put 0 0 1 1", "put 0 a 1 0", "put 0 01 2 a", "own 0", "own 0 A", "own 0 ab", "own a 0", "own 0 1",
                 "own 0 a a", "own 00 a", "plain 0", "lock", "lock a", "undo", "undo -1", "undo a", "row 0", "rows", "Row", "groups ",
                 "path", "path a", "path 0 1", "path 00", "class 0", "settled?", "reached", "reached ", "reached  none", "reached none ",
                 "reached None", "reached 0 1", "reached 0 1 a;", "reached 0 1 a; ", "reached 0 1 a;1 2 b", "reached 0 1 a ; 1 2 b",
                 "reached 0 1 a, 1 2 b", "reached 0 1 a;  1 2 b", "reached ; 0 1 a", "reached none; 0 1 a", "reached 0 1 a; none",
                 "reached 00 1 a", "reached 0 01 a", "reached 0 1 A", "reached 0 1 ab", "reached a 0 1", "reached 0  1 a",
                 "reached 0 1 a\n", "desk", "deed 0", "moves moves", "0", "a", "a 0", "0 on", "what", "ok", "on 0; on 0", "N", "on O"]
        wrong += ["on \u0660", "on \u00b2", "on \uff11", "own 0 \u00e9", "own 0 \u0430", "put 0 0 1 \u00df", "reached 0 1 \u00aa",
                  "on\u00a00", "on \u0967", "own \u0661 a", "reached \u0660 1 a", "on 0\u2003", "o\u006e\u0301 0"]
        for command in wrong + [word + " " for word in FORMS] + [word.replace(" ", "  ", 1) + "!" for word in FORMS]:
            self.check_refused(shell, command, "what")
        for command in [word for word in FORMS if " " in word]:
            self.check_refused(shell, command.replace(" ", "  ", 1), "what")
            self.check_refused(shell, " ".join(command.split(" ")[:-1] + ["0" + command.split(" ")[-1]]), "what")
        self.check_refused(shell, "0" + HUGE, "what")
        self.check_refused(shell, "on 0" + HUGE, "what")
        self.check_refused(shell, "~" * 8000, "what")

    def test_every_letter_is_an_owner(self):
        for letter in "abcdefghijklmnopqrstuvwxyz":
            shell = Shell(Desk(TRIO))
            self.assertEqual([shell(f"own 0 {letter}"), shell("row")], ["ok", f"0 1 {letter}; 1 2 b"])

    def test_a_command_that_is_refused_is_no_change(self):
        shell = Shell(Desk(LOOP))
        for command in ("lock 1", "on 0", "own 2 z", "what", "on 3", "take 0", "take 3", "plain", "undo 9", "reached 9 9 z"):
            shell(command)
        self.assertEqual(shell("undo 5"), "nothing")
        self.assertEqual([shell("undo 4"), shell("row"), shell("locks"), shell("undo 1")],
                         ["ok", steps_text(LOOP.steps), "none", "nothing"])


class TwinTest(ShellCase):
    def test_a_shell_works_on_a_twin(self):
        desk = locked_desk(LOOP, (1,))
        shell = Shell(desk)
        self.assertEqual([shell("on 0"), shell("undo 2"), shell("lock 3")], ["ok", "ok", "ok"])
        self.assertEqual(shown(desk), (LOOP, (1,), 1))
        desk.take(3)
        self.assertEqual(shown(shell.desk()), (LOOP, (3,), 1))
        handed = shell.desk()
        handed.undo()
        handed.take(0)
        self.assertEqual(shown(shell.desk()), (LOOP, (3,), 1))
        self.assertEqual(shell("undo 1"), "ok")
        self.assertEqual(shown(handed), (LOOP.without_step(0), (), 1))

    def test_the_changes_of_the_desk_can_be_taken_back(self):
        desk = locked_desk(LOOP, (1, 2))
        shell = Shell(desk)
        self.assertEqual([shell("undo 2"), shell("locks"), shell("undo 1")], ["ok", "none", "nothing"])
        self.assertEqual(desk.changes, 2)

    def test_two_shells(self):
        desk = Desk(TRIO)
        one, other = Shell(desk), Shell(desk)
        one("take 0")
        self.assertEqual([one("row"), other("row"), len(desk)], ["1 2 b", "0 1 a; 1 2 b", 2])

    def test_text(self):
        shell = Shell(locked_desk(LOOP, (0, 2)))
        self.assertEqual(str(shell), "shell of desk of 4 steps, 2 locks")
        shell("take 1")
        self.assertEqual(str(shell), "shell of desk of 3 steps, 2 locks")

    def test_wrong_arguments(self):
        for value in STRANGE:
            if not isinstance(value, Desk):
                self.told(InvalidOperation, Shell, value)
        shell = Shell(Desk(LOOP))
        self.told(InvalidOperation, Shell, shell)
        for value in STRANGE:
            if isinstance(value, str):
                self.assertEqual(shell(value), "what")
            else:
                self.assertIsNone(self.told(ParseError, shell, value).line)
        self.assertEqual(shown(shell.desk()), (LOOP, (), 0))

    def test_a_shell_is_not_iterated_over(self):
        with self.assertRaises(TypeError):
            iter(Shell(Desk(LOOP)))
