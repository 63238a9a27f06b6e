"""The main statements [0.7] to [0.18] over the whole program: all parts tell the same about what leads to what."""

from itertools import permutations
from random import Random

from renamedown.base.deeds import back_of, rings_of
from renamedown.count.classes import class_rows, class_size, distance, first_counts, is_shortest_way, shortest_way
from renamedown.count.numbers import count_parted
from renamedown.decide.owners import count_owners, do_fit, least_owners, moves_to_owners
from renamedown.decide.told import is_wish_paper, row_for, wish_of
from renamedown.decide.ways import any_reason, classes_of, is_reason, is_way_paper, leads_to, way_paper, way_to
from renamedown.errors import NoWay, TooMany
from renamedown.moves.passings import after_moves, only_on, pass_back, pass_on, turned_over, undone
from renamedown.moves.plain import is_plain, moves_to_plain, plain_of, plain_row, sign_of
from renamedown.rows.names import any_likeness, are_alike, is_likeness, is_own, kind_of, sent_back
from renamedown.rows.rows import Row
from renamedown.rows.webs import groups_of, handles_of, rings_in, split, steps_in
from renamedown.text.shell import Shell
from renamedown.text.texts import read_moves, read_paper, read_row, write_moves, write_paper, write_row
from renamedown.use.desk import Desk
from tests.common import FULL, LOOP, TRIO, TWINS, Case
from tests.test_plain import random_moves, random_row
from tests.test_shell import steps_text
from tests.test_statements import all_rows
from tests.test_webs import PARTED

SIZES = ((12, 24, 1), (12, 24, 2), (12, 24, 4), (12, 23, 1), (12, 12, 3), (9, 24, 2), (4, 24, 1), (2, 24, 1))


def known_to_lead(one, other):
    """Whether the one row leads to the other one, by [0.12] alone."""
    def told(row):
        return [sorted(row[index][2] for index in steps_in(row, group)) for group in groups_of(row)]
    return (one.deed, groups_of(one), told(one)) == (other.deed, groups_of(other), told(other))


def drawn_rows(random):
    """Rows of 12 places and 24 steps, and smaller ones."""
    rows = [random_row(random, places, many, "abc", groups) for places, many, groups in SIZES]
    return rows + [random_row(random, random.randrange(2, 7), random.randrange(2, 8), "ab", 2) for _ in range(12)]


def others_of(random, row):
    """Rows with as many places, of which some are led to."""
    moved = after_moves(row, random_moves(random, row, 150))
    swapped = "".join(random.sample([step[2] for step in row.steps], len(row)))
    return [row, moved, moved.owned(swapped), row.owned(swapped), row.backwards(), plain_row(moved), sent_back(row, 1),
            Row(row.places, tuple(random.sample(row.steps, len(row)))), row.without_step(0), Row(row.places)]


class SameTest(Case):
    def check_pair(self, one, other):
        """Check that all parts of the program tell the same about two rows with as many places."""
        right = known_to_lead(one, other)
        told = [leads_to(one, other), leads_to(other, one), plain_row(one) == plain_row(other), sign_of(one) == sign_of(other),
                wish_of(one) == wish_of(other), any_reason(one, other) is None, classes_of((one, other)) == ((0, 1),),
                is_wish_paper(wish_of(one), ("row", other)), is_likeness(one, other, tuple(range(one.places))),
                Desk(one).is_reached(other), Shell(Desk(one))(f"reached {steps_text(other.steps)}") == "yes"]
        self.assertEqual(told, [right] * len(told))
        if one.exchanges == other.exchanges:
            self.assertIs(do_fit(one, "".join(step[2] for step in other.steps)), right)
        paper = way_paper(one, other)
        self.assertEqual(paper[0], "moves" if right else "reason")
        self.assertIs(is_way_paper(one, other, paper), True)
        self.assertEqual(read_paper(write_paper(paper)), paper)
        if right:
            self.check_way(one, other)
        else:
            self.assertIs(is_reason(one, other, self.told(NoWay, way_to, one, other).reason), True)

    def check_way(self, one, other):
        """Check what holds for two rows of which the one leads to the other one."""
        moves = way_to(one, other)
        self.assertEqual(after_moves(one, read_moves(write_moves(moves))), other)
        self.assertEqual(after_moves(other, undone(moves)), one)
        self.assertEqual(after_moves(one, only_on(moves)), other)
        self.assertEqual((class_size(one), count_owners(one)), (class_size(other), count_owners(other)))
        self.assertEqual((kind_of(one), groups_of(one)), (kind_of(other), groups_of(other)))
        self.assertEqual(first_counts(one), first_counts(other))
        self.assertIs(are_alike(one, other), True)

    def test_small_rows(self):
        random = Random(201)
        for places, many, letters in ((2, 3, "ab"), (3, 3, "ab"), (4, 3, "ab"), (4, 4, "a"), (3, 2, "abc")):
            rows = all_rows(places, many, letters)
            for one in random.sample(rows, 8):
                for other in random.sample(rows, min(len(rows), 12)) + [row for row in rows if row.deed == one.deed][:12]:
                    self.check_pair(one, other)

    def test_drawn_rows(self):
        random = Random(202)
        for row in drawn_rows(random) + [TRIO, TWINS, LOOP, FULL, PARTED]:
            for other in others_of(random, row):
                self.check_pair(row, other)

    def test_small_classes(self):
        random = Random(203)
        for row in [TRIO, TWINS, LOOP, Row(3), Row(2, ((0, 1, "a"), (0, 1, "b")))]:
            found = class_rows(row)
            self.assertEqual(len(found), class_size(row))
            for other in random.sample(found, min(len(found), 7)):
                self.check_pair(row, other)
                way = shortest_way(row, other)
                self.assertEqual((after_moves(row, way), len(way)), (other, distance(row, other)))
                self.assertLessEqual(len(way), len(way_to(row, other)))
                self.assertIs(is_shortest_way(row, other, read_moves(write_moves(way))), True)
            self.assertEqual([other for other in found if is_plain(other)], [plain_row(row)])

    def test_alike_rows(self):
        random = Random(204)
        for row in drawn_rows(random):
            names = tuple(random.sample(range(row.places), row.places))
            other = after_moves(row.renamed(names), random_moves(random, row, 60))
            self.assertIs(is_likeness(row, other, names), True)
            self.assertIs(leads_to(row.renamed(any_likeness(row, other)), other), True)
            self.assertEqual((class_size(row), count_owners(row)), (class_size(other), count_owners(other)))
            self.assertIs(leads_to(row, other), is_own(row, names))


class StatementsTest(Case):
    def test_rows_and_passings(self):
        random = Random(205)
        for row in drawn_rows(random) + [TRIO, TWINS, LOOP, FULL, PARTED]:
            self.assertEqual(read_row(write_row(row)), row)
            self.assertEqual(row.backwards().deed, back_of(row.deed))
            index = random.randrange(len(row) - 1)
            self.assertEqual(pass_back(pass_on(row, index), index), row)
            self.assertEqual(turned_over(row, index, many=6), row)
            self.assertEqual(turned_over(row, index, many=5), pass_back(row, index))
            plain = plain_row(row)
            self.assertEqual((after_moves(row, moves_to_plain(row)), plain_of(sign_of(row))), (plain, plain))
            self.assertEqual(plain_row(plain), plain)
            self.assertEqual(row_for(wish_of(row)), plain)
            for group in groups_of(row):
                many = len(steps_in(row, group))
                self.assertEqual(many, len(group) + len(rings_in(row, group)) - 2 + 2 * handles_of(row, group))
            parts = split(row)
            self.assertEqual(sum(len(part) for part in parts), len(row))
            for group, part in zip(groups_of(row), parts):
                self.assertEqual([part.deed[place] for place in group], [row.deed[place] for place in group])

    def test_the_size_of_a_class_depends_on_numbers_only(self):
        random = Random(206)
        for row in drawn_rows(random):
            parts = []
            for group in groups_of(row):
                lengths = sorted(len(ring) for ring in rings_of(row.deed) if ring[0] in group)
                parts.append((tuple(lengths), len(steps_in(row, group))))
            self.assertEqual(class_size(row), count_parted(tuple(parts)) * count_owners(row))
            self.assertEqual(class_size(row), class_size(row.renamed(tuple(random.sample(range(row.places), row.places)))))

    def test_owners_of_each_group_in_any_order(self):
        random = Random(207)
        for row in drawn_rows(random):
            letters = [step[2] for step in row.steps]
            for group in groups_of(row):
                own = steps_in(row, group)
                for index, letter in zip(own, random.sample([letters[at] for at in own], len(own))):
                    letters[index] = letter
            owners = "".join(letters)
            self.assertIs(do_fit(row, owners), True)
            self.assertEqual(after_moves(row, moves_to_owners(row, owners)), row.owned(owners))
            self.assertIs(leads_to(row, row.owned(least_owners(row))), True)

    def test_steps_in_another_order(self):
        random = Random(208)
        for row in drawn_rows(random)[8:]:
            orders = list(permutations(row.steps)) if len(row) < 6 else [random.sample(row.steps, len(row)) for _ in range(60)]
            for steps in orders:
                other = Row(row.places, tuple(steps))
                self.assertIs(leads_to(row, other), row.deed == other.deed)

    def test_what_is_not_true(self):
        owned = TWINS.owned("acb")
        self.assertEqual((owned.deed, owned.exchanges), (TWINS.deed, TWINS.exchanges))
        one, other = Row(4, ((0, 1, "a"),) * 2), Row(4, ((2, 3, "a"),) * 2)
        self.assertEqual((one.deed, one.owners, len(groups_of(one))), (other.deed, other.owners, len(groups_of(other))))
        for left, right in ((TWINS, owned), (one, other), (TRIO, TRIO.backwards())):
            self.check_apart(left, right)
        self.assertIs(leads_to(TRIO, pass_on(TRIO, 0)), True)
        self.assertNotEqual(pass_on(TRIO, 0).exchanges, TRIO.exchanges)
        self.assertNotEqual(turned_over(TRIO, 0, many=3), TRIO)

    def check_apart(self, left, right):
        self.assertIs(leads_to(left, right), False)
        self.assertIsNone(distance(left, right))
        self.assertIsNone(shortest_way(left, right))
        self.assertNotIn(right, class_rows(left))
        self.assertIs(Desk(left).is_reached(right), False)

    def test_a_desk_without_locks_stays_in_a_class(self):
        random = Random(209)
        for row in drawn_rows(random):
            desk = Desk(row)
            for _ in range(40):
                index, way = random.choice(desk.free_moves)
                (desk.pass_on if way == "on" else desk.pass_back)(index)
            self.assertIs(leads_to(row, desk.row), True)
            self.assertEqual((desk.wish, desk.changes), (wish_of(row), 40))
            desk.make_plain()
            self.assertEqual(desk.row, plain_row(row))

    def test_large_classes_are_counted_but_not_told(self):
        for row in (FULL, PARTED):
            self.assertGreater(class_size(row), 5000)
            self.assertEqual(self.told(TooMany, class_rows, row).limit, 5000)
            self.assertEqual(sum(first_counts(row).values()), class_size(row))
