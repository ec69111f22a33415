"""Points 109, 113 and 114: tasks of one ring with a plan or bars, thin tasks with a plan or a cover."""

import itertools
import math
import random
import unittest
from unittest import mock

from helpers import Case, line_web, ring_web
from nowaittasks import pullers
from nowaittasks.bars import Bar
from nowaittasks.clocks import Clock
from nowaittasks.corners import chain_plan, corner_rows
from nowaittasks.covers import Cover, cover_against
from nowaittasks.errors import BadTask, TooMany
from nowaittasks.fillings import filling_fault
from nowaittasks.folding import folds
from nowaittasks.labels import labels_fault
from nowaittasks.loops import loop_room
from nowaittasks.numbers import is_one_ring
from nowaittasks.planrules import plan_picture, plan_rule
from nowaittasks.plans import Plan, ring_of
from nowaittasks.readback import read_plan
from nowaittasks.rules import does
from nowaittasks.sumplans import has_sums, plan_sums, sum_plan
from nowaittasks.tasks import Task, agree_task
from nowaittasks.told_rooms import thin_against, thin_plan, told_bars, told_plan
from nowaittasks.walks import stretched, walk_between
from nowaittasks.webs import Web
from test_corners import many_points
from test_covers import some_numbers
from test_folding import EIGHT
from test_numbers import moore
from test_sumplans import FULL, ODD_TASK, SIX, TWICE, side_task

INPUTS = (FULL, FULL, Web.of((0, 1, 2), (1, 2, 5)), Web.of((0, 1, 2), (2, 4)), Web.of((0, 1, 2), (3, 4, 5)),
          Web.of((0, 1, 2), (0, 2, 3), (0, 1, 3)), Web.of((0, 1), (1, 2)), Web.of((2,)))
RINGS = (ring_web(4), ring_web(6), FULL, TWICE, Web.of((0, 1), (1, 2), (0, 2)), Web.of((0, 1, 2), (2, 3), (3, 4), (1, 4)),
         line_web(3), Web.of((0, 1, 3), (1, 3, 4), (1, 2, 4), (2, 4, 5), (0, 2, 5), (0, 3, 5)), moore(1), moore(3))
# A web that is joined but has two rings.
TWO_RINGS = EIGHT


def some_cells(chance, web, part):
    """A web with some cells of a web, one point at least."""
    return Web([cell for cell in web.cells if chance.random() < part], points=(chance.choice(web.points),))


def common(webs):
    """The web of what all webs have."""
    found = webs[0]
    for web in webs[1:]:
        found = found & web
    return found


def ring_task(seed, rings=RINGS):
    """A task whose triangles have joined rooms of one ring, None if the rooms have too little in common."""
    chance = random.Random(seed)
    inputs = chance.choice(INPUTS)
    rooms = {triangle: chance.choice(rings) for triangle in inputs.triangles}
    for edge in inputs.edges:
        over = [rooms[cell] for cell in inputs.triangles if set(edge) <= set(cell)] or [chance.choice(rings)]
        if not common(over).points:
            return None
        rooms[edge] = some_cells(chance, common(over), chance.choice((0.5, 0.8, 1)))
    for u in inputs.points:
        over = [rooms[edge] for edge in inputs.edges if u in edge] or [chance.choice(rings)]
        if not common(over).points:
            return None
        points = common(over).points
        rooms[u,] = Web((), points=chance.sample(points, min(len(points), chance.randint(1, 2))))
    outputs = Web([cell for web in rooms.values() for cell in web.cells])
    return Task(inputs, outputs, [rooms[cell] for cell in inputs.cells])


TASKS = [task for task in [ring_task(seed) for seed in range(500)] if task is not None]


class TestToldPlan(Case):
    def check_plan(self, task):
        """The plan has the first corners with sums mod 0, or there is none; whether there is one."""
        good = [corners for corners in corner_rows(task) if sum_plan(task, corners, 0) is not None]
        plan = told_plan(task)
        self.assertEqual(plan is not None, len(good) > 0)
        if plan is not None:
            self.assertIs(type(plan), Plan)
            self.assertEqual(plan.task, task)
            self.same(plan.corners, good[0])
            for triangle, filling in zip(task.inputs.triangles, plan.fillings):
                self.assertIsNone(filling_fault(task.room(triangle), ring_of(plan, triangle), filling))
            self.assertEqual(plan, Plan(task, plan.corners, plan.walks, plan.fillings))
            self.assertIsNone(told_bars(task))
        self.assertEqual(has_sums(task, 0), plan is not None)
        return plan is not None

    def check_bars(self, task):
        """There is a bar of the least hours for each row of joined corners."""
        found = told_bars(task)
        self.assertIs(type(found), tuple)
        self.same(tuple(row[0] for row in found), tuple(corner_rows(task)))
        for row in found:
            self.assertEqual([type(row), len(row), type(row[1])], [tuple, 2, Bar])
            corners, bar = row
            self.assertEqual(bar.task, task)
            self.same(bar.corners, corners)
            self.assertIsNone(sum_plan(task, corners, bar.hours))
            for hours in range(2, bar.hours):
                self.assertIsNotNone(sum_plan(task, corners, hours))
            self.assertNotEqual(bar.total, 0)

    def test_random_tasks(self):
        told = {True: 0, False: 0}
        hours = set()
        for task in TASKS:
            good = self.check_plan(task)
            told[good] += 1
            if not good:
                self.check_bars(task)
                hours |= {bar.hours for _, bar in told_bars(task)}
        self.assertTrue(min(told.values()) > 30, told)
        self.assertIn(2, hours)

    def test_all_hours_or_none(self):
        # T has sums mod 0 exactly if it has sums mod every m of at least 2.
        for task in TASKS[:120]:
            if told_plan(task) is not None:
                self.assertTrue(all(has_sums(task, hours) for hours in (2, 3, 4, 5, 12, 10 ** 9)))
            else:
                least = math.lcm(2, *[bar.hours for _, bar in told_bars(task)])
                self.assertIs(has_sums(task, least), False)

    def test_the_rule_of_the_plan(self):
        drawn = 0
        for task in TASKS:
            plan = told_plan(task)
            if plan is not None and plan.most_layers <= 6 and plan.steps_each <= 8:
                self.assertIsNone(labels_fault(task, *plan_picture(plan)))
                drawn += 1
        self.assertGreater(drawn, 40)

    def test_rules_of_one_round(self):
        done = 0
        for task in TASKS[::8]:
            plan = told_plan(task)
            if plan is not None and plan.rounds_needed <= 1:
                rule = plan_rule(plan)
                self.assertIsNone(does(task, rule, 3))
                self.assertIsInstance(read_plan(task, rule), Plan)
                done += 1
        self.assertGreater(done, 5)

    def test_loop_tasks(self):
        for hours in range(4):
            for turns in range(1, 4):
                task = loop_room(hours, turns).loop_task
                good = self.check_plan(task)
                self.assertEqual(good, math.gcd(hours, turns) == hours)
                if not good:
                    self.check_bars(task)

    def test_walks_that_go_round(self):
        # The edge 01 has a ring for its room, so its walk may go round until the ring of the triangle is pulled.
        for many in (4, 6, 9):
            ring = ring_web(many)
            rooms = [Web.of((0,)), Web.of((1,)), Web.of((2,)), ring, Web.of((0, many - 1), (many - 1, many - 2)),
                     Web.of((1, 2)), ring]
            rooms[4] = Web([(place, (place + 1) % many) for place in range(2, many)])
            self.assertTrue(self.check_plan(Task(FULL, ring, rooms)))
        # Twice round it is done, once round it is not.
        self.assertFalse(self.check_plan(ODD_TASK))
        self.check_bars(ODD_TASK)
        self.same([bar.hours for _, bar in told_bars(ODD_TASK)], [2])
        self.assertFalse(self.check_plan(SIX))
        free = Task(FULL, TWICE, list(ODD_TASK.rooms[:3]) + [TWICE] + list(ODD_TASK.rooms[4:]))
        self.assertTrue(self.check_plan(free))

    def test_walks_go_round_the_shorter_way(self):
        # Once round the other way does what four times round does, so no walk is long.
        ring = Web.of((0, 1), (1, 2), (0, 2))
        for turned in itertools.permutations((0, 1, 2)):
            rooms = [Web.of((point,)) for point in turned]
            rooms += [ring] + [Web.of((turned[0], turned[2])), Web.of((turned[1], turned[2])), moore(5)]
            task = Task(FULL, moore(5), rooms)
            self.assertTrue(self.check_plan(task))
            self.same(told_plan(task).steps_each, 2)

    def test_hours_of_bars(self):
        sides = ((0, 1), (1, 2), (0, 2))
        for times, least in ((2, 2), (3, 3), (4, 2), (5, 5), (9, 3), (0, 2)):
            room = moore(times) if times else Web.of((0, 1), (1, 2), (0, 2))
            task = side_task(sides, room)
            self.assertFalse(self.check_plan(task))
            self.check_bars(task)
            self.same([bar.hours for _, bar in told_bars(task)], [least])

    def test_two_triangles_ask_for_one_walk(self):
        # Round both triangles the walk of 12 is the only one with a choice.
        ring = ring_web(6)
        inputs = Web.of((0, 1, 2), (1, 2, 3))
        for last, good in (((4, 3, 2, 1, 0), True), ((4, 5, 0), False)):
            rooms = {(0,): (2,), (1,): (0,), (2,): (4,), (3,): (0,), (0, 1): ((0, 1), (1, 2)), (0, 2): ((2, 3), (3, 4)),
                     (1, 3): ((0,),), (2, 3): tuple(zip(last, last[1:]))}
            webs = {cell: Web(rooms[cell]) if len(cell) > 1 else Web.of(rooms[cell]) for cell in rooms}
            webs.update({(1, 2): ring, (0, 1, 2): ring, (1, 2, 3): ring})
            task = Task(inputs, ring, [webs[cell] for cell in inputs.cells])
            self.assertEqual(self.check_plan(task), good)
            if not good:
                self.check_bars(task)

    def test_agreeing(self):
        self.assertFalse(self.check_plan(agree_task(2)))
        self.check_bars(agree_task(2))
        self.assertTrue(self.check_plan(agree_task(3)))
        self.assertEqual(told_plan(agree_task(3)).most_layers, 0)

    def test_no_triangles_no_edges_and_no_corners(self):
        split = Web.of((0, 1), (2, 3))
        parted = Task(Web.of((4, 7)), split, [Web.of((0,)), Web.of((3,)), split])
        self.same([told_plan(parted), told_bars(parted)], [None, ()])
        line = Task(Web.of((4, 7)), split, [Web.of((0,), (3,)), Web.of((2,)), split])
        self.assertTrue(self.check_plan(line))
        self.same(told_plan(line).corners, (3, 2))
        points = many_points(2, 3)
        self.assertTrue(self.check_plan(points))
        self.same([told_plan(points).corners, told_plan(points).walks, told_plan(points).fillings], [(0, 0), (), ()])

    def test_errors_of_rooms(self):
        rooms = list(agree_task(3).rooms)
        outputs = FULL | TWO_RINGS | Web.of((8, 9))
        for call in (told_plan, told_bars):
            for room in (rooms[-1] | Web.of((8, 9)), Web.of((0, 1), (1, 2), (0, 2), (0, 3), (3, 4), (0, 4))):
                self.fails(BadTask, {"word": "ring", "cell": (0, 1, 2)}, call, Task(FULL, outputs, rooms[:-1] + [room]))
            # The first of the triangles that are not as asked.
            inputs = Web.of((0, 1, 2), (1, 2, 3), (2, 3, 4))
            for bad, cell in (((0, 1), (0, 1, 2)), ((1, 2), (1, 2, 3)), ((2,), (2, 3, 4))):
                webs = [TWO_RINGS if place in bad else FULL for place in range(3)]
                small = [Web.of((0,))] * (len(inputs) - 3)
                self.fails(BadTask, {"word": "ring", "cell": cell}, call, Task(inputs, outputs, small + webs))

    def test_too_many_corners(self):
        self.assertEqual(told_plan(many_points(5000)).corners, (0,))
        self.assertIsNone(told_bars(many_points(50, 100)))
        for call in (told_plan, told_bars):
            self.fails(TooMany, {"word": "corners"}, call, many_points(5001))
            # A room that is not of one ring comes ahead of too many corners.
            points = Web((), points=tuple(range(18)))
            web = points | TWO_RINGS
            task = Task(FULL, web, [points] * 3 + [web] * 4)
            self.fails(BadTask, {"word": "ring", "cell": (0, 1, 2)}, call, task)
            cone = points | Web([(point, point + 1) for point in range(17)])
            self.fails(TooMany, {"word": "corners"}, call, Task(FULL, cone, [points] * 3 + [cone] * 4))

    def test_too_many_moves(self):
        task = loop_room(2, 2).loop_task
        most = told_plan(task).most_layers
        with mock.patch.object(pullers, "MOST_MOVES", most):
            self.assertEqual(told_plan(task).most_layers, most)
        with mock.patch.object(pullers, "MOST_MOVES", most - 1):
            self.fails(TooMany, {"word": "moves"}, told_plan, task)
            self.assertIsNone(told_bars(task))
            self.assertIsNone(told_plan(ODD_TASK))


def random_tree(chance, points):
    """A tree over these points."""
    order = chance.sample(points, len(points))
    return Web([(chance.choice(order[:place]), order[place]) for place in range(1, len(order))], points=order)


def thin_task(seed):
    """A task as point 113 asks."""
    chance = random.Random(seed)
    inputs = chance.choice(INPUTS)
    corner = {u: chance.randrange(6) for u in inputs.points}
    rooms = {(u,): Web.of((corner[u],)) for u in inputs.points}
    for u, v in inputs.edges:
        points = sorted({corner[u], corner[v]} | set(chance.sample(range(6), chance.randrange(4))))
        rooms[u, v] = random_tree(chance, points)
    graph = Web([edge for web in rooms.values() for edge in web.edges] or [(0,)], points=range_row(6))
    for triangle in inputs.triangles:
        inner = [rooms[edge] for edge in itertools.combinations(triangle, 2)]
        rooms[triangle] = inner[0] | inner[1] | inner[2] | some_cells(chance, graph, 0.2)
    outputs = Web([cell for web in rooms.values() for cell in web.cells])
    return Task(inputs, outputs, [rooms[cell] for cell in inputs.cells])


def range_row(many):
    """The row of the integers below a number."""
    return tuple(range(many))


THIN = [thin_task(seed) for seed in range(300)]


class TestThin(Case):
    def check(self, task):
        """A plan with the shortest walks, or the least triangle whose ring does not fold and a cover; whether a plan."""
        inputs = task.inputs
        corners = tuple(task.room((u,)).points[0] for u in inputs.points)
        corner = dict(zip(inputs.points, corners))
        walks = [walk_between(task.room((u, v)), corner[u], corner[v]) for u, v in inputs.edges]
        most = max([2] + [len(walk) - 1 for walk in walks])
        chain = chain_plan(task)
        self.same([chain.corners, chain.walks], [corners, tuple(stretched(walk, most) for walk in walks)])
        bad = [cell for cell in inputs.triangles if not folds(task.room(cell), ring_of(chain, cell))]
        plan, against = thin_plan(task), thin_against(task)
        if bad:
            self.assertIsNone(plan)
            self.assertEqual([type(against), len(against)], [tuple, 2])
            self.same(against[0], bad[0])
            self.assertIs(type(against[1]), Cover)
            ring = ring_of(chain, bad[0])
            self.assertEqual(against[1], cover_against(task.room(bad[0]), ring))
            self.assertNotEqual(against[1].round_lead(ring)[0], 0)
        else:
            self.assertIsNone(against)
            self.assertIs(type(plan), Plan)
            self.assertEqual(plan.task, task)
            self.same([plan.corners, plan.walks], [chain.corners, chain.walks])
            for triangle, filling in zip(inputs.triangles, plan.fillings):
                self.assertIsNone(filling_fault(task.room(triangle), ring_of(plan, triangle), filling))
        return not bad

    def test_random_tasks(self):
        told = {True: 0, False: 0}
        for task in THIN:
            told[self.check(task)] += 1
        self.assertTrue(min(told.values()) > 60, told)

    def test_sums(self):
        told = {}
        for task in THIN:
            chain = chain_plan(task)
            for hours in (0, 2, 3):
                due = all(not plan_rest(ring_of(chain, cell), hours) for cell in task.inputs.triangles)
                self.assertEqual(has_sums(task, hours), due)
                told[hours, due] = told.get((hours, due), 0) + 1
        self.assertTrue(len(told) == 6 and min(told.values()) > 40, told)

    def test_the_rule_of_the_plan(self):
        drawn = 0
        for task in THIN:
            plan = thin_plan(task)
            if plan is not None and plan.most_layers <= 12:
                self.assertIsNone(labels_fault(task, *plan_picture(plan)))
                drawn += 1
        self.assertGreater(drawn, 60)

    def test_rules_are_barred(self):
        # No row of points for the views of one round, read along the sides, does a task whose ring does not fold.
        one = Web.of((0, 1), (1, 2), (0, 2))
        task = side_task(((0, 1), (1, 2), (0, 2)), one)
        self.assertIsNone(thin_plan(task))
        self.assertFalse(has_sums(task, 2))
        self.same([told_plan(task), thin_against(task)[1].sheet_count], [None, 4])

    def test_rooms_of_one_ring_tell_the_same(self):
        compared = 0
        for task in THIN:
            if all(task.room(cell).joined and is_one_ring(task.room(cell)) for cell in task.inputs.triangles):
                self.assertEqual(told_plan(task) is None, thin_plan(task) is None)
                compared += 1
        self.assertGreater(compared, 50)

    def test_no_triangles(self):
        task = Task(line_web(2), line_web(4), [Web.of((0,)), Web.of((4,)), Web.of((4,)), line_web(4), Web.of((4,))])
        self.assertTrue(self.check(task))
        self.same([thin_plan(task).walks, thin_plan(task).fillings], [((0, 1, 2, 3, 4), (4, 4, 4, 4, 4)), ()])
        alone = Task(Web.of((3,)), line_web(1), [Web.of((1,))])
        self.assertTrue(self.check(alone))

    def test_errors(self):
        # In the order of cells: corners, then edges, then triangles.
        inputs = Web.of((0, 1, 2), (1, 2, 3))
        outputs = EIGHT | FULL | Web.of((7, 8))
        point, tree, thick = Web.of((0,)), Web.of((0, 1), (0, 3)), EIGHT | FULL
        bad_edges = (Web.of((0, 1), (1, 2), (0, 2)), FULL, tree | Web.of((7, 8)), tree | Web.of((7,)), EIGHT)
        for call in (thin_plan, thin_against):
            rooms = {cell: (point, tree, EIGHT | Web.of((7, 8)) | FULL)[len(cell) - 1] for cell in inputs.cells}

            def fails(word, cell):
                task = Task(inputs, outputs, [rooms[other] for other in inputs.cells])
                self.fails(BadTask, {"word": word, "cell": cell}, call, task)

            fails("thin", (0, 1, 2))
            rooms[0, 1, 2] = EIGHT
            fails("thin", (1, 2, 3))
            for edge, web in zip(((2, 3), (1, 3), (1, 2), (0, 2), (0, 1)), bad_edges):
                rooms[edge] = web
                rooms[0, 1, 2] = rooms[1, 2, 3] = thick | Web.of((7, 8))
                fails("tree", edge)
            for u in (3, 2, 1, 0):
                rooms[u,] = Web.of((0,), (1,))
                fails("corner", (u,))
            single = Task(Web.of((5,)), Web.of((0,), (1,)), [Web.of((0,), (1,))])
            self.fails(BadTask, {"word": "corner", "cell": (5,)}, call, single)


def plan_rest(ring, hours):
    """The edges over which a closed walk goes forth not as often as back, mod the hours."""
    total = {}
    for x, y in zip(ring, ring[1:] + ring[:1]):
        total[min(x, y), max(x, y)] = total.get((min(x, y), max(x, y)), 0) + (y > x) - (y < x)
    return [edge for edge in total if (total[edge] % hours if hours else total[edge])]


class TestSumsAreWeaker(Case):
    RING = (0, 1, 2, 0, 3, 4, 0, 2, 1, 0, 4, 3)

    def test_no_clock(self):
        chance = random.Random(1)
        for hours in (0, 2, 3, 5, 12):
            for _ in range(20):
                numbers = some_numbers(chance, EIGHT, hours or 50)
                clock = Clock(EIGHT, [numbers[edge] for edge in EIGHT.edges], hours)
                self.same(clock.around(self.RING), 0)

    def test_no_fold_and_no_cover_of_two_sheets(self):
        self.assertIs(folds(EIGHT, self.RING), False)
        for turns in itertools.product(((0, 1), (1, 0)), repeat=6):
            self.same(Cover(EIGHT, 2, turns).round_lead(self.RING), (0, 1))

    def test_some_cover_of_three_sheets(self):
        # Covers that turn at the edges 12 and 34 alone are enough.
        stay, found = (0, 1, 2), 0
        for one, other in itertools.product(itertools.permutations(stay), repeat=2):
            turns = [{(1, 2): one, (3, 4): other}.get(edge, stay) for edge in EIGHT.edges]
            found += Cover(EIGHT, 3, turns).round_lead(self.RING) != stay
        self.assertGreater(found, 0)
        self.same(cover_against(EIGHT, self.RING).sheet_count, 13)

    def test_the_last_example(self):
        outputs = Web.of((0, 2), (0, 3), (0, 4), (1, 2), (1, 3), (1, 4))
        rooms = [Web.of((3,)), Web.of((4,)), Web.of((2,)), Web.of((0, 2), (0, 3), (1, 2), (1, 4)),
                 Web.of((0, 2), (0, 4), (1, 3), (1, 4)), Web.of((0, 3), (0, 4), (1, 2), (1, 3)), outputs]
        task = Task(FULL, outputs, rooms)
        self.assertIsNotNone(chain_plan(task))
        self.same([has_sums(task, hours) for hours in (0, 2, 3, 10 ** 9)], [True] * 4)
        self.assertIsNone(thin_plan(task))
        triangle, cover = thin_against(task)
        self.same([triangle, cover.sheet_count, cover.round_lead(ring_of(chain_plan(task), triangle))[0]], [(0, 1, 2), 13, 12])

    def test_plans_have_sums(self):
        for task in THIN[:60]:
            plan = thin_plan(task)
            if plan is not None:
                for hours in (0, 2, 3):
                    self.same(plan_sums(plan, hours).hours, hours)


if __name__ == "__main__":
    unittest.main()
