"""Point 102: walks that lift the sides of a sum plan, copies of triangles, members and groups."""

import random
import unittest

from helpers import NO_ROWS, Case, line_web, ring_web
from nowaittasks.borders import walk_chain
from nowaittasks.corners import corner_rows
from nowaittasks.errors import BadInputs, BadPlan
from nowaittasks.plans import cone_plan
from nowaittasks.sheets import lifted, sheet_copies
from nowaittasks.sumplans import SumPlan, plan_sums, sum_plan
from nowaittasks.tasks import Task, agree_task
from nowaittasks.walks import is_walk
from nowaittasks.webs import Web
from test_borders import border_by_words
from test_plans import LONG, PLAN
from test_sumplans import FULL, ODD_TASK, random_small_task

ODD = sum_plan(ODD_TASK, (0, 1, 3), 3)
AGREE = plan_sums(cone_plan(agree_task(3)), 0)


def many_plans():
    """Sum plans of all kinds of hours, some with numbers that are made larger."""
    found = [ODD, AGREE, plan_sums(PLAN, 0), plan_sums(LONG, 4), sum_plan(ODD_TASK, (0, 1, 3), 5)]
    for seed in range(150):
        chance = random.Random(seed)
        task = random_small_task(seed)
        hours = chance.choice((0, 0, 2, 3, 4, 7))
        for corners in list(corner_rows(task))[:1]:
            sums = sum_plan(task, corners, hours)
            if sums is not None:
                found.append(sums)
    free = Task(FULL, Web.complete((0, 1, 2, 3)), [Web.complete((0, 1, 2, 3))] * 7)
    for hours in (0, 3, 8):
        around = tuple((cell, 3 * number) for cell, number in border_by_words((((0, 1, 3), 1),), 0))
        sheet = [((0, 1, 3), 3), ((1, 2, 3), 5), ((0, 2, 3), -5), ((0, 1, 3), 5), ((0, 1, 2), -5)]
        found.append(SumPlan(free, (1, 1, 1), [around, (), ()], [sheet], hours))
    return found


SUMS = many_plans()


class TestLifted(Case):
    def test_by_words(self):
        kinds = set()
        for sums in SUMS:
            walks = lifted(sums)
            self.assertIs(type(walks), tuple)
            self.assertEqual(len(walks), len(sums.task.inputs.edges))
            corner = dict(zip(sums.task.inputs.points, sums.corners))
            for (u, v), walk, side in zip(sums.task.inputs.edges, walks, sums.sides):
                self.assertIs(type(walk), tuple)
                self.assertTrue(is_walk(sums.task.room((u, v)), walk))
                self.assertEqual((walk[0], walk[-1]), (corner[u], corner[v]))
                self.same(walk_chain(walk, sums.hours), side)
            kinds.add(sums.hours)
        self.assertEqual(kinds, {0, 2, 3, 4, 5, 7, 8})

    def test_sides_that_are_whole_mod_hours_alone(self):
        task = Task(Web.of((0, 1)), ring_web(4), [ring_web(4)] * 3)
        # One round is missing mod 5, from edge to edge.
        side = [((0, 1), 4), ((1, 2), 4), ((2, 3), 4), ((0, 3), -4)]
        for hours, factor in ((5, 1), (5, 2), (7, 3), (10 ** 9, 1)):
            sums = SumPlan(task, (0, 0), [[(cell, factor * number) for cell, number in side]], (), hours)
            self.same(walk_chain(lifted(sums)[0], hours), sums.sides[0])
        near = [((0, 1), 3), ((1, 2), 1), ((2, 3), 2), ((0, 3), 4)]
        sums = SumPlan(task, (0, 0), [[((0, 1), 2), ((1, 2), 2), ((2, 3), 2), ((0, 3), 2)]], (), 4)
        self.same(walk_chain(lifted(sums)[0], 4), sums.sides[0])
        self.assertRaises(BadPlan, SumPlan, task, (0, 0), [near], (), 5)

    def test_no_edges(self):
        self.same(lifted(SumPlan(Task(Web.of((3,)), FULL, [FULL]), (1,), (), (), 2)), ())
        self.same(lifted(SumPlan(Task(Web.of((0, 1)), FULL, [FULL] * 3), (1, 1), [()], (), 0)), ((1,),))


class TestCopies(Case):
    def members(self, sums, triangle, walks, copies):
        """All members, straight from point 102."""
        found = []
        for who, (cell, sign) in enumerate(copies):
            found += [(who, edge, sense) for edge, sense in border_by_words(((cell, sign),), 0)]
        u, v, w = triangle
        walk = dict(zip(sums.task.inputs.edges, walks))
        place = 0
        for row in (walk[u, v], walk[v, w], walk[u, w][::-1]):
            for one, other in zip(row, row[1:]):
                if one < other:
                    found.append((-1 - place, (one, other), -1))
                if one > other:
                    found.append((-1 - place, (other, one), 1))
                place += 1
        return found

    def check(self, sums, triangle, walks):
        copies, groups = sheet_copies(sums, triangle, walks)
        sheet = dict(zip(sums.task.inputs.triangles, sums.sheets))[triangle]
        due = []
        for cell, number in sheet:
            due += [(cell, 1 if number > 0 else -1)] * abs(number)
        self.same(copies, tuple(due))
        self.same(sorted(member for group in groups for member in group),
                  sorted(self.members(sums, triangle, walks, copies)))
        for group in groups:
            self.assertEqual({type(group)} | {type(member) for member in group}, {tuple})
            self.assertEqual(len({edge for _, edge, _ in group}), 1)
            senses = sorted(sense for _, _, sense in group)
            equal = len(senses) == sums.hours and len(set(senses)) == 1
            self.assertTrue(equal or senses == [-1, 1], group)
        edges = [group[0][1] for group in groups]
        self.assertEqual(edges, sorted(edges))
        for answer in sheet_copies(sums, list(triangle[::-1]), [list(walk) for walk in walks]), (copies, groups):
            self.same(answer, (copies, groups))
        return groups

    def test_by_words(self):
        equal = 0
        for sums in SUMS:
            for triangle in sums.task.inputs.triangles:
                groups = self.check(sums, triangle, lifted(sums))
                equal += any(group[0][2] == group[1][2] for group in groups)
                if sums.hours > 2:
                    equal += any(len(group) > 2 for group in groups)
        self.assertGreater(equal, 5)

    def test_other_walks(self):
        walks = [(0, 0, 1, 1), (0, 2, 0, 2), (1, 2, 2)]
        groups = self.check(AGREE, (0, 1, 2), walks)
        self.same(len(groups), 4)
        self.same(sheet_copies(AGREE, (0, 1, 2), ((0, 1), (0, 2), (1, 2))), (
            (((0, 1, 2), 1),),
            tuple(group for group in sheet_copies(AGREE, (0, 1, 2), ((0, 1), (0, 2), (1, 2)))[1])))
        self.same(sorted(sorted(group) for group in sheet_copies(AGREE, [2, 0, 1], [[0, 1], [0, 2], [1, 2]])[1]), [
            [(-3, (0, 2), 1), (0, (0, 2), -1)], [(-2, (1, 2), -1), (0, (1, 2), 1)], [(-1, (0, 1), -1), (0, (0, 1), 1)]])

    def test_empty_sheets(self):
        free = Task(FULL, line_web(1), [line_web(1)] * 7)
        sums = SumPlan(free, (0, 0, 0), ((), (), ()), [()], 3)
        self.same(sheet_copies(sums, (0, 1, 2), [(0,)] * 3), ((), ()))
        self.same(len(self.check(sums, (0, 1, 2), [(0, 1, 0), (0,), (0, 0)])), 1)

    def test_errors(self):
        for triangle in NO_ROWS + ((), (0, 1), (0, 1, 1), (0, 1, 2, 2), (0, 1, 3), (0, 1, None), (True, 0, 2), "012"):
            self.fails(BadInputs, {"place": -1}, sheet_copies, AGREE, triangle, None)
        good = ((0, 1), (0, 2), (1, 2))
        for walks in NO_ROWS + ((), good[:2], good + ((0,),)):
            self.fails(BadPlan, {"word": "walk", "cell": ()}, sheet_copies, AGREE, (0, 1, 2), walks)
        for walk in NO_ROWS + ((), (0,), (0, 1), (0, 2, 1), (2, 0), (0, 3, 2), (0, None), (0, 2, 0), (0, 1, 2), (0, 2, 2.0)):
            self.fails(BadPlan, {"word": "walk", "cell": (0, 2)}, sheet_copies, AGREE, (0, 1, 2), (good[0], walk, None))
        # The steps are right, but the walk begins elsewhere.
        free = Task(FULL, FULL, [FULL] * 7)
        sums = SumPlan(free, (0, 0, 0), ((), (), ()), [()], 2)
        self.fails(BadPlan, {"word": "walk", "cell": (0, 1)}, sheet_copies, sums, (0, 1, 2), ((1,), (0,), (0,)))
        self.fails(BadPlan, {"word": "walk", "cell": (1, 2)}, sheet_copies, sums, (0, 1, 2), ((0,), (0, 1, 0), (0, 1)))
        self.same(sheet_copies(sums, (0, 1, 2), ((0, 1, 2, 0, 1, 2, 0), (0,), (0, 0)))[0], ())


if __name__ == "__main__":
    unittest.main()
