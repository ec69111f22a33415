"""Points 127 and 128: books, books of sum plans, rules of labels alone."""

import itertools
import random
import unittest

from helpers import NO_NUMBERS, NO_ROWS, Case, line_web, ring_web
from nowaittasks.after import after_sums, after_task
from nowaittasks.books import LabelOnly, book_of, is_book
from nowaittasks.borders import walk_chain
from nowaittasks.errors import BadNumber, BadView
from nowaittasks.loops import loop_room
from nowaittasks.plans import cone_plan
from nowaittasks.rules import Rule, does
from nowaittasks.sheets import lifted, sheet_copies
from nowaittasks.sumplans import SumPlan, has_sums, plan_sums, sum_plan
from nowaittasks.tasks import Task, agree_task
from nowaittasks.walks import is_walk
from nowaittasks.webs import Web
from test_borders import NO_HOURS, border_by_words, chain_by_words
from test_plans import LONG, PLAN
from test_rules import NO_VIEWS
from test_sheets import SUMS
from test_sumplans import FULL, ODD_TASK

HOURS = (0, 2, 3, 4, 6)


def book_by_words(task, walks, signs, hours):
    """Whether walks and signs of the right form make a book, straight from point 127."""
    if any(len(task.room((u,)).points) != 1 for u in task.inputs.points):
        return False
    steps = {}
    for (u, v), walk in zip(task.inputs.edges, walks):
        ends = (task.room((u,)).points[0], task.room((v,)).points[0])
        if not is_walk(task.room((u, v)), walk) or (walk[0], walk[-1]) != ends:
            return False
        steps[u, v] = walk_chain(walk, hours)
    for (u, v, w), row in zip(task.inputs.triangles, signs):
        due = steps[u, v] + steps[v, w] + tuple((edge, -number) for edge, number in steps[u, w])
        if border_by_words(row, hours) != chain_by_words(due, hours):
            return False
    return True


def changed(row, place, entry):
    """The row with another entry at a place."""
    return tuple(row[:place]) + (entry,) + tuple(row[place + 1:])


BOOKS = [(sums, book_of(sums)) for sums in SUMS if max([0] + [len(walk) for walk in lifted(sums)]) < 40]


class TestBookOf(Case):
    def check(self, sums, told):
        """The box, its walks, signs and labels are made as point 128 says."""
        task, inputs = sums.task, sums.task.inputs
        self.assertEqual([type(told), len(told)], [tuple, 4])
        box, walks, signs, labels = told
        self.same(walks, lifted(sums))
        corner = dict(zip(inputs.points, sums.corners))
        rooms = {(u,): {(corner[u],)} for u in inputs.points}
        for edge, walk in zip(inputs.edges, walks):
            steps = {tuple(sorted(pair)) for pair in zip(walk, walk[1:]) if pair[0] != pair[1]}
            rooms[edge] = {(point,) for point in walk} | steps
        new, due, names = task.outputs.points[-1] + 1, [], list(task.outputs.points)
        for u, v, w in inputs.triangles:
            row = []
            web = rooms[u, v] | rooms[v, w] | rooms[u, w]
            for (x, y, z), sign in sheet_copies(sums, (u, v, w), walks)[0]:
                pages = [((x, y, new), sign), ((y, z, new), sign), ((x, z, new), -sign)]
                web |= set(Web([cell for cell, _ in pages]).cells)
                row += pages
                names.append(x)
                new += 1
            rooms[u, v, w] = web
            due.append(tuple(sorted(row)))
        self.same([signs, labels], [tuple(due), tuple(names)])
        self.assertIs(type(box), Task)
        self.assertEqual(box.inputs, inputs)
        self.assertEqual([set(room.cells) for room in box.rooms], [rooms[cell] for cell in inputs.cells])
        cells = set().union(*rooms.values()) | {(point,) for point in task.outputs.points}
        self.assertEqual(set(box.outputs.cells), cells)
        self.assertEqual(len(labels), len(box.outputs.points))

    def test_by_words(self):
        copies = 0
        for sums, told in BOOKS:
            self.check(sums, told)
            copies += len(told[3]) - len(sums.task.outputs.points)
        self.assertGreater(copies, 50)

    def test_they_are_books(self):
        for sums, (box, walks, signs, labels) in BOOKS:
            self.assertIs(is_book(box, walks, signs, sums.hours), True)
            for hours in range(2, 13):
                if sums.hours % hours == 0:
                    self.assertIs(is_book(box, walks, signs, hours), True)
                self.assertEqual(is_book(box, walks, signs, hours), book_by_words(box, walks, signs, hours))
            self.assertEqual(is_book(box, walks, signs, 0), book_by_words(box, walks, signs, 0))

    def test_they_have_sums(self):
        for sums, (box, walks, signs, labels) in BOOKS:
            corners = [box.room((u,)).points[0] for u in box.inputs.points]
            sides = [walk_chain(walk, sums.hours) for walk in walks]
            again = SumPlan(box, corners, sides, signs, sums.hours)
            rest = after_task(sums.task, box)
            label = dict(zip(box.outputs.points, labels))
            left = sum_plan(rest, [label[point] for point in rest.inputs.points], sums.hours)
            self.same(after_sums(sums.task, again, left).corners, sums.corners)
            self.assertTrue(has_sums(box, sums.hours) and has_sums(sums.task, sums.hours))

    def test_the_labels_do_what_is_left(self):
        done = 0
        for sums, (box, walks, signs, labels) in BOOKS:
            rest = after_task(sums.task, box)
            many = len(rest.inputs.points) + 6 * len(rest.inputs.edges) + 6 * len(rest.inputs.triangles)
            rule = LabelOnly(labels, box.outputs.points)
            for size in (1, 2, 3):
                if many < 1500:
                    self.assertIsNone(does(rest, rule, size))
                    done += 1
        self.assertGreater(done, 100)

    def test_loops(self):
        for hours, turns, mod in ((0, 2, 2), (0, 3, 3), (2, 1, 3), (1, 1, 0), (3, 3, 0)):
            loop = loop_room(hours, turns)
            corners = [loop.first[0], loop.first[-1], loop.second[-1]]
            sums = sum_plan(loop.loop_task, corners, mod)
            told = book_of(sums)
            self.check(sums, told)
            box, walks, signs, labels = told
            self.assertIs(is_book(box, walks, signs, mod), True)
            self.assertIsNone(does(after_task(loop.loop_task, box), LabelOnly(labels, box.outputs.points), 3))

    def test_no_triangles_and_no_edges(self):
        line = Task(line_web(2), ring_web(4), [Web.of((0,)), Web.of((1,)), Web.of((2,)), ring_web(4), ring_web(4)])
        told = book_of(sum_plan(line, (0, 1, 2), 0))
        self.check(sum_plan(line, (0, 1, 2), 0), told)
        self.same([told[2], told[3]], [(), (0, 1, 2, 3)])
        points = Task(Web.of((3,)), FULL, [FULL])
        box, walks, signs, labels = book_of(sum_plan(points, (1,), 5))
        self.same([walks, signs, labels, box.outputs.cells], [(), (), (0, 1, 2), ((0,), (1,), (2,))])
        self.assertIs(is_book(box, walks, signs, 5), True)

    def test_corners_that_are_equal(self):
        free = Task(FULL, FULL, [FULL] * 7)
        sums = sum_plan(free, (1, 1, 1), 0)
        box, walks, signs, labels = book_of(sums)
        self.check(sums, (box, walks, signs, labels))
        self.same([walks, signs], [((1,), (1,), (1,)), ((),)])
        self.assertIs(is_book(box, walks, signs, 0), True)


class TestIsBook(Case):
    def test_spoilt_at_one_place(self):
        seen = {True: 0, False: 0}
        for sums, (box, walks, signs, labels) in BOOKS:
            hours = sums.hours
            for place, row in enumerate(signs):
                for at, (cell, sign) in enumerate(row):
                    other = changed(signs, place, changed(row, at, (cell, -sign)))
                    due = book_by_words(box, walks, other, hours)
                    self.assertIs(is_book(box, walks, other, hours), due)
                    self.assertIs(due, hours == 2)
                    seen[due] += 1
            for place, walk in enumerate(walks):
                for spoilt in (walk[1:], walk[:-1], walk + (walk[0],), walk[::-1], walk[:1] + walk):
                    due = len(spoilt) > 0 and book_by_words(box, changed(walks, place, spoilt), signs, hours)
                    self.assertIs(is_book(box, changed(walks, place, spoilt), signs, hours), due)
                    seen[due] += 1
        self.assertTrue(min(seen.values()) > 30, seen)

    def test_forms(self):
        sums = plan_sums(cone_plan(agree_task(3)), 0)
        box, walks, signs, _ = book_of(sums)
        lists = [list(walk) for walk in walks], [[[list(cell), sign] for cell, sign in row] for row in signs]
        self.assertIs(is_book(box, lists[0], lists[1], 0), True)
        bad_walks = NO_ROWS + ((), walks[:2], walks + (walks[0],), walks[::-1]) + tuple(
            changed(walks, 1, walk) for walk in NO_ROWS + ((), (0, 3, 2), (0, None, 2), (0, 9, 2), (0, True), (-1, 2)))
        for row in bad_walks:
            self.assertIs(is_book(box, row, signs, 0), False)
        row = signs[0]
        bad_rows = NO_ROWS + ((), row[:-1], row + row[:1], row[::-1], row[1:] + row[:1]) + tuple(
            changed(row, 1, entry) for entry in NO_ROWS + (
                (), row[1][:1], row[1] + (1,), (row[1][0], 0), (row[1][0], True), (row[1][0], 2), (row[1][0], None),
                (row[1][0], 1.0), (row[1][0][::-1], row[1][1]), (row[1][0][:2], 1), row[0], (None, 1), ("012", 1)))
        for other in bad_rows:
            self.assertIs(is_book(box, walks, (other,), 0), False)
        for other in NO_ROWS + ((), signs + signs, row):
            self.assertIs(is_book(box, walks, other, 0), False)
        # What only looks like a sign, also where the sums would come out.
        for place, (cell, sign) in enumerate(row):
            for entry in (float(sign), sign == 1, 3 * sign, sign + 2, sign + 12):
                for hours in (0, 2, 12):
                    self.assertIs(is_book(box, walks, (changed(row, place, (cell, entry)),), hours), entry in (1, -1) and
                                  type(entry) is int and hours == 2)

    def test_points_with_a_choice(self):
        box, walks, signs, _ = book_of(plan_sums(cone_plan(agree_task(3)), 0))
        for place in range(3):
            for points in ((0, 1, 2), (place, 9)):
                rooms = list(box.rooms)
                rooms[place] = Web((), points=points)
                for at in range(3, 7):
                    rooms[at] = rooms[at] | rooms[place]
                self.assertIs(is_book(Task(FULL, box.outputs | rooms[place], rooms), walks, signs, 0), False)
        # Without a triangle only points and walks are asked for.
        line = Task(Web.of((0, 1)), ring_web(5), [Web.of((0,)), Web.of((2,)), ring_web(5)])
        for walk, good in (((0, 1, 2), True), ((0, 4, 3, 2), True), ((0, 2), False), ((2, 1, 0), False), ((0, 1), False)):
            self.assertIs(is_book(line, (walk,), (), 3), good)

    def test_a_book_of_no_hours_is_one_of_all(self):
        for plan in (PLAN, LONG):
            box, walks, signs, _ = book_of(plan_sums(plan, 0))
            for hours in (0,) + tuple(range(2, 14)) + (10 ** 9,):
                self.assertIs(is_book(box, walks, signs, hours), True)

    def test_hours_that_are_none_of_the_divisors(self):
        box, walks, signs, _ = book_of(sum_plan(ODD_TASK, (0, 1, 3), 3))
        self.same([is_book(box, walks, signs, hours) for hours in HOURS], [False, False, True, False, False])

    def test_all_signs(self):
        # Two triangles of the room over one of the inputs: just the signs that make up the border are a book.
        room = Web.of((0, 1, 3), (1, 2, 3), (0, 2, 3))
        sides = [Web.of((0, 1)), Web.of((0, 2)), Web.of((1, 2))]
        task = Task(FULL, room, [Web.of((0,)), Web.of((1,)), Web.of((2,))] + sides + [room])
        for signs in itertools.product((1, -1), repeat=3):
            row = tuple(zip(room.triangles, signs))
            for hours in HOURS:
                due = hours == 2 or signs == (1, -1, 1)
                self.assertIs(is_book(task, ((0, 1), (0, 2), (1, 2)), (row,), hours), due)

    def test_errors_of_hours(self):
        for hours in NO_HOURS:
            self.fails(BadNumber, {"word": "hours"}, is_book, agree_task(3), None, None, hours)

    def test_what_is_handed_in_stays(self):
        box, walks, signs, _ = book_of(plan_sums(PLAN, 0))
        lists = [list(walk) for walk in walks], [[[list(cell), sign] for cell, sign in row] for row in signs]
        again = [list(walk) for walk in walks], [[[list(cell), sign] for cell, sign in row] for row in signs]
        is_book(box, *lists, 0)
        self.assertEqual(lists, again)


class TestLabelOnly(Case):
    def test_labels(self):
        rule = LabelOnly([4, 7, -2], (9, 0, 3))
        self.assertIsInstance(rule, Rule)
        self.same([rule.KIND, LabelOnly.KIND, rule.many], ["labels", "labels", 0])
        self.same([rule((0, 9)), rule((5, 0)), rule((1, 3)), rule.point_for((1, 3))], [4, 7, -2, -2])
        for view in ((0, 4), (0, 10 ** 6), (9, 7)):
            self.fails(BadView, {}, rule, view)
            self.fails(BadView, {}, rule.point_for, view)
        for view in NO_VIEWS + ((0, ((0, 9),)), ()):
            self.fails(BadView, {}, rule, view)
        for view in NO_NUMBERS:
            self.fails(BadView, {}, rule, (0, view))
        self.fails(BadView, {}, LabelOnly((), ()), (0, 0))

    def test_stays_when_rows_are_changed(self):
        labels, points = [4, 7], [9, 0]
        rule = LabelOnly(labels, points)
        labels[0], points[0] = 5, 1
        self.same([rule((0, 9)), rule((0, 0))], [4, 7])
        chance = random.Random(1)
        many = chance.sample(range(10 ** 6), 3000)
        wide = LabelOnly(tuple(range(3000)), many)
        self.assertTrue(all(wide((2, point)) == place for place, point in enumerate(many)))


if __name__ == "__main__":
    unittest.main()
