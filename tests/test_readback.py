"""Points 83 and 84: plans read from rules of at most two rounds."""

import itertools
import random
import unittest

from helpers import Case, LeafRule, line_web
from nowaittasks.discs import Disc, disc_moves, equal_runs
from nowaittasks.errors import BadPlan, TooMany
from nowaittasks.fillings import filling_fault, rings_of
from nowaittasks.labels import LabelRule, labels_fault
from nowaittasks.mates import run_at
from nowaittasks.pictures import Picture
from nowaittasks.planrules import plan_picture, plan_rule
from nowaittasks.plans import Plan, cone_plan
from nowaittasks.readback import read_plan
from nowaittasks.rules import Rule, TableRule, does
from nowaittasks.runs import neat_runs
from nowaittasks.spreading import LineRule
from nowaittasks.tasks import Task, agree_task
from nowaittasks.views import views_of
from nowaittasks.webs import Web
from test_rules import alone_view, task_of_rule

FULL = Web.complete((0, 1, 2))
TWO = Web.of((0, 1, 3), (1, 3, 4))


class Numbered(Rule):
    """A rule that tells another point for each view, up to a limit on points if one is told."""

    KIND = "numbered"

    def __init__(self, many, most=None):
        super().__init__(many)
        self.numbers, self.most = {}, most

    def point_for(self, view):
        """The number of the view."""
        number = self.numbers.setdefault(view, len(self.numbers))
        return number if self.most is None else number * 7 % self.most


def rule_task(inputs, rule):
    """The least task over these inputs that a rule does for three names; its rooms are quickly put together."""
    runs = list(neat_runs((0, 1, 2), rule.many))
    cells = {cell: set() for cell in inputs.cells}
    for row in itertools.product(inputs.points, repeat=3):
        if inputs.sits(row):
            for run in runs:
                told = tuple(sorted({rule(view) for view in views_of(row, run)}))
                for cell in inputs.cells:
                    if set(row) <= set(cell):
                        cells[cell].add(told)
    outputs = Web(sorted(set().union(*cells.values())))
    return Task(inputs, outputs, [Web(sorted(cells[cell])) for cell in inputs.cells])


def walk_by_words(rule, u, v):
    """The points read for the walk of an edge, straight from point 83."""
    many = 3 ** rule.many
    points = []
    for inputs, places in (((u, v), range(many + 1)), ((v, v), range(many - 1, -1, -1))):
        for place in places:
            run = run_at(min(place, many - 1), rule.many)
            points.append(rule(views_of(inputs, run)[place % 2]))
    return tuple(points)


class TestReadPlan(Case):
    def check(self, task, rule):
        plan = read_plan(task, rule)
        self.assertIs(type(plan), Plan)
        self.assertEqual(plan.task, task)
        self.same(plan.corners, tuple(rule(alone_view(0, u, rule.many)) for u in task.inputs.points))
        self.same(plan.walks, tuple(walk_by_words(rule, u, v) for u, v in task.inputs.edges))
        if task.inputs.edges:
            self.same(plan.steps_each, 2 * 3 ** rule.many)
        for triangle, filling in zip(task.inputs.triangles, plan.fillings):
            self.assertTrue(all(len(layer) == 1 for layer in filling))
            self.assertIsNone(filling_fault(task.room(triangle), plan.ring(*triangle), filling))
            self.assertTrue(rule.many == 2 or len(filling) <= 300)
        self.assertTrue(plan == read_plan(task, rule))
        return plan

    def test_rules_that_tell_all_views_apart(self):
        for inputs in (FULL, TWO, Web.of((2, 4)), Web.of((1,), (5,)), Web.of((0, 1), (0, 2), (1, 2))):
            for many in (0, 1):
                rule = Numbered(many)
                task = rule_task(inputs, rule)
                plan = self.check(task, rule)
                picture, labels = plan_picture(plan)
                self.assertIsNone(labels_fault(task, picture, labels))
                # The disc of one round has no point next to all of its side.
                self.assertTrue(many == 0 or all(len(filling) > 20 for filling in plan.fillings))

    def test_two_rounds(self):
        rule = Numbered(2)
        task = rule_task(FULL, rule)
        plan = self.check(task, rule)
        self.assertGreater(len(plan.fillings[0]), 300)
        self.assertGreater(len(plan.fillings[0]), 81 + 321)

    def test_rules_that_tell_few_points(self):
        for seed in range(30):
            for inputs in (FULL, TWO, Web.of((0, 1, 2), (2, 3))):
                rule = LeafRule(seed % 2, (0, 1, 2, 3, 5, 6)[:2 + seed % 5], seed)
                task = rule_task(inputs, rule)
                plan = self.check(task, rule)
                picture, labels = plan_picture(plan)
                self.assertIsNone(labels_fault(task, picture, labels))
        self.assertEqual(rule_task(FULL, LeafRule(1, (0, 1), 3)), task_of_rule(FULL, LeafRule(1, (0, 1), 3), 3))

    def test_two_rounds_with_few_points(self):
        for most in (9, 40):
            rule = Numbered(2, most)
            self.check(rule_task(FULL, rule), rule)

    def test_layers_without_any(self):
        rule = plan_rule(cone_plan(agree_task(3)))
        plan = self.check(agree_task(3), rule)
        self.same(plan.corners, (0, 1, 2))
        self.same(plan.walks[0], (0, 1, 1, 1, 1, 1, 1))

    def test_rules_of_plans_are_read_back(self):
        plan = cone_plan(agree_task(3))
        again = read_plan(agree_task(3), plan_rule(plan))
        self.same(again.corners, plan.corners)
        third = plan_rule(again)
        self.assertIsNone(labels_fault(agree_task(3), *plan_picture(again)))
        self.assertEqual(third.many, again.rounds_needed)

    def test_lines(self):
        line = line_web(4)
        task = Task(Web.of((0, 1)), line, [Web.of((0,)), Web.of((4,)), line])
        plan = self.check(task, LineRule(task))
        self.same([plan.steps_each, len(plan.walks[0]), plan.walks[0][9:]], [18, 19, (4,) * 10])

    def test_spots(self):
        picture = Picture(FULL).great().starred([(0, 3), (1, 3, 6)])
        rooms = [Web([cell for cell in picture.web.cells if set(picture.carrier_of(cell)) <= set(s)])
                 for s in FULL.cells]
        task = Task(FULL, picture.web, rooms)
        plan = self.check(task, LabelRule(picture, picture.web.points))
        self.assertIsNone(filling_fault(task.room((0, 1, 2)), plan.ring(0, 1, 2), plan.fillings[0]))

    def test_many_triangles(self):
        inputs = Web([(0, point, point + 1) for point in range(1, 30)])
        rule = LeafRule(2, (4, 5, 6), 8)
        outputs = Web.complete((4, 5, 6))
        task = Task(inputs, outputs, [outputs] * len(inputs))
        plan = read_plan(task, rule)
        self.same([plan.fillings, len(plan.walks)], [((),) * 29, 59])

    def test_last_rings_are_coned(self):
        rule = Numbered(1)
        plan = read_plan(rule_task(FULL, rule), rule)
        rings = rings_of(plan.ring(0, 1, 2), plan.fillings[0])
        self.assertEqual(len(rings[0]), 18)
        self.assertLessEqual(len(set(rings[-1])), 3)


class TestDiscs(Case):
    def test_equal_runs(self):
        self.same(equal_runs([4, 4, 5, 6, 6, 6, 4]), [(1, 2), (3, 3), (3, 6)])
        self.same(equal_runs([0, 1, 2]), [(1, 0), (1, 1), (1, 2)])
        self.same([equal_runs([3, 3, 1, 1]), equal_runs([1, 3, 3, 1])], [[(2, 0), (2, 2)], [(2, 1), (2, 3)]])

    def test_shape(self):
        for many, inside in ((0, 1), (1, 21), (2, 321)):
            disc = Disc((3, 5, 8), many)
            self.assertEqual(len(disc.triples), 4 * 13 ** many)
            self.assertEqual(len(disc.circle), 6 * 3 ** many)
            self.assertEqual([disc.seen_views[number] for number in disc.circle], [
                view for u, v, back in ((3, 5, 1), (5, 8, 1), (3, 8, -1))
                for view in self.path(u, v, many)[::back][:-1]])
            inner = {number for triple in disc.triples for number in triple} - set(disc.circle)
            self.assertEqual(len(inner), inside)
            moves = disc_moves(disc)
            self.assertEqual(len([move for move in moves if move[0] == "insert"]), inside)
            self.assertLessEqual(len(moves), (4, 93, 2700)[many])

    def path(self, u, v, many):
        """The views along which a walk is read."""
        found = []
        for inputs, places in (((u, v), range(3 ** many + 1)), ((v, v), range(3 ** many - 1, -1, -1))):
            found += [views_of(inputs, run_at(min(place, 3 ** many - 1), many))[place % 2]
                      for place in places]
        return found


class TestErrors(Case):
    def test_too_many_rounds(self):
        for many in (3, 4, 40):
            self.fails(TooMany, {"word": "runs"}, read_plan, agree_task(3), LeafRule(many, (0,), 1))

    def changed(self, rule, views, point):
        """The rule with another point for some views."""
        other = Numbered(rule.many)

        class Changed(Rule):
            """The rule, but for some views."""

            KIND = "changed"

            def point_for(self, view):
                """The other point, or the rule's."""
                return point if view in views else rule(view)

        return Changed(other.many)

    def test_first_cell_that_fails(self):
        for many in (0, 1):
            rule = Numbered(many)
            task = rule_task(TWO, rule)
            lone = [alone_view(0, u, many) for u in (0, 1, 3, 4)]
            for place, u in enumerate((0, 1, 3, 4)):
                for point in (9999, -1, None, "0", True):
                    self.fails(BadPlan, {"word": "rule", "cell": (u,)}, read_plan, task,
                               self.changed(rule, lone[place:], point))
            for u, v in TWO.edges:
                both = views_of((u, v), run_at(0, many))[1]
                bad = self.changed(rule, [both], 9999)
                first = [edge for edge in TWO.edges if both in self.views_on(edge, many)][0]
                self.fails(BadPlan, {"word": "rule", "cell": first}, read_plan, task, bad)
                back = views_of((v, v), run_at(0, many))[1]
                first = [edge for edge in TWO.edges if back in self.views_on(edge, many)][0]
                self.fails(BadPlan, {"word": "rule", "cell": first}, read_plan, task, self.changed(rule, [back], 9999))

    def views_on(self, edge, many):
        """The views along which the walk of an edge is read."""
        return [view for inputs in (edge, edge[1:] * 2) for place in range(3 ** many)
                for view in views_of(inputs, run_at(place, many))]

    def test_triangles_that_fail(self):
        for many in (0, 1):
            rule = Numbered(many)
            task = rule_task(TWO, rule)
            for (u, v, w), seed in itertools.product(TWO.triangles, range(6)):
                chance = random.Random(seed)
                inputs = chance.choice(((u, v, u), (v, v, u), (v, w, u), (u, w, u)))
                run = chance.choice(list(neat_runs((0, 1, 2), many)))
                view = views_of(inputs, run)[2]
                on_edges = [other for edge in TWO.edges for other in self.views_on(edge, many)]
                self.assertNotIn(view, on_edges)
                first = [cell for cell in TWO.triangles if view in self.disc(cell, many)][0]
                self.fails(BadPlan, {"word": "rule", "cell": first}, read_plan, task, self.changed(rule, [view], 9999))

    def disc(self, triangle, many):
        """The views of the disc over a triangle."""
        u, v, w = triangle
        return [view for inputs in ((u, v, u), (v, v, u), (v, w, u), (u, w, u))
                for run in neat_runs((0, 1, 2), many) for view in views_of(inputs, run)]

    def test_points_that_are_no_cell_of_the_room(self):
        # Each point is an output of the room, but in one run three of them do not sit.
        rule = TableRule(0, [((name, u), u) for name in range(3) for u in range(3)])
        self.fails(BadPlan, {"word": "rule", "cell": (0, 1, 2)}, read_plan, agree_task(2), rule)
        self.fails(BadPlan, {"word": "rule", "cell": (0, 1)}, read_plan, agree_task(1), rule)
        self.assertIs(type(read_plan(agree_task(3), rule)), Plan)
        self.assertIsNone(does(agree_task(3), rule, 3))

    def test_views_of_no_disc_do_not_matter(self):
        rule = Numbered(1)
        task = rule_task(FULL, rule)
        outside = [view for inputs in ((2, 1, 0), (0, 0, 2)) for run in neat_runs((0, 1, 2), 1)
                   for view in views_of(inputs, run)]
        seen = self.disc((0, 1, 2), 1) + [view for edge in FULL.edges for view in self.views_on(edge, 1)]
        free = [view for view in outside if view not in seen]
        self.assertGreater(len(free), 5)
        self.assertTrue(read_plan(task, self.changed(rule, free, 9999)) == read_plan(task, rule))

    def test_errors_of_the_rule_go_through(self):
        class Odd(Exception):
            """What a rule may raise."""

        class Raising(Rule):
            """A rule that tells nothing for views of several names."""

            KIND = "raising"

            def point_for(self, view):
                """A point for those alone."""
                if len(view[1]) > 1:
                    raise Odd()
                return 0

        with self.assertRaises(Odd):
            read_plan(Task(FULL, FULL, [FULL] * 7), Raising(1))


class TestSameTasks(Case):
    def test_rooms_that_are_cones(self):
        # One point at each input: two steps or less are one round, more are as halving tells.
        for steps in range(1, 9):
            line = line_web(steps)
            cone = line | Web([edge + (50,) for edge in line.edges])
            rooms = [Web.of((0,)), Web.of((steps,)), Web.of((0,))] + [line, Web.of((0,)), line, cone]
            task = Task(FULL, cone, rooms)
            plan = cone_plan(task)
            least = max(1, (steps - 1).bit_length())
            self.same(plan.rounds_needed, least)
            self.assertIsNone(labels_fault(task, *plan_picture(plan)))

    def test_no_rounds_or_one(self):
        # Corners a step apart at most: no round is needed exactly if those of the triangle sit.
        cone = Web.of((0, 1, 3), (1, 2, 3), (0, 2, 3))
        for room, sits in ((FULL, True), (cone, False)):
            edges = Web.of((0, 1), (1, 2), (0, 2))
            rooms = [Web.of((u,)) for u in range(3)] + [edges] * 3 + [room]
            task = Task(FULL, room, rooms)
            lone = LabelRule(Picture(FULL), (0, 1, 2))
            self.assertIs(does(task, lone, 3) is None, sits)
            rule = plan_rule(cone_plan(task))
            self.same(rule.many, 1)
            self.assertIsNone(does(task, rule, 3))


if __name__ == "__main__":
    unittest.main()
