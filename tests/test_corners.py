"""Points 32 and 35: corners, joined for the task, and chain plans."""

import itertools
import random
import unittest

from helpers import NO_NUMBERS, NO_ROWS, Case, first_of, line_web, ring_web
from nowaittasks.corners import ChainPlan, chain_plan, corner_rows, parted_edge
from nowaittasks.errors import BadInputs, BadPlan, TooMany
from nowaittasks.tasks import Task, agree_task
from nowaittasks.twos import least_two, two_points
from nowaittasks.walks import stretched, walk_between
from nowaittasks.webs import Web

LINE = line_web(4)
FAR = Task(Web.of((0, 1)), LINE, [Web.of((0,)), Web.of((4,)), LINE])
PATH = Web.of((3, 5), (5, 8))
# Over the path 3 5 8: corners 0; 1 or 4; 2.
FORK = Task(PATH, LINE, [Web.of((0,)), Web.of((1,), (4,)), Web.of((2,)), LINE, LINE])


def random_task(seed):
    """A task over few inputs, in whose rooms not all is joined."""
    chance = random.Random(seed)
    inputs = chance.choice((Web.of((2, 4, 7)), Web.of((0, 1), (1, 2), (2, 3)), Web.of((0, 1)), Web.of((1,), (2,)),
                            Web.of((0, 1), (1, 2), (0, 2), (2, 3))))
    edges = [pair for pair in itertools.combinations(range(6), 2) if chance.random() < 0.35]
    graph = Web(edges, points=list(range(6)))
    rooms = {}
    for cell in inputs.cells:
        if len(cell) == 1:
            own = chance.sample(range(6), chance.choice((1, 2, 3)))
            rooms[cell] = Web([edge for edge in graph.edges if set(edge) <= set(own) and seed % 3], points=own)
        elif len(cell) == 2:
            kept = Web([edge for edge in graph.edges if chance.random() < 0.7])
            rooms[cell] = rooms[cell[:1]] | rooms[cell[1:]] | kept
        else:
            rooms[cell] = graph
    return Task(inputs, graph, [rooms[cell] for cell in inputs.cells])


def joined_rows(task):
    """All rows of corners that no edge parts, ascending."""
    points = task.inputs.points
    found = []
    for row in itertools.product(*[task.room((u,)).points for u in points]):
        corner = dict(zip(points, row))
        if all(corner[v] in task.room((u, v)).part(corner[u]) for u, v in task.inputs.edges):
            found.append(row)
    return found


def many_points(*sizes):
    """A task over so many inputs that are in no edge, with rooms of so many points."""
    outputs = Web((), points=list(range(max(sizes))))
    rooms = [Web((), points=list(range(size))) for size in sizes]
    return Task(Web((), points=list(range(len(sizes)))), outputs, rooms)


class TestCornerRows(Case):
    def test_all_rows(self):
        some = 0
        for seed in range(120):
            task = random_task(seed)
            due = joined_rows(task)
            self.same(list(corner_rows(task)), due)
            some += 0 < len(due) < 10
        self.assertGreater(some, 20)

    def test_agree(self):
        self.same(list(corner_rows(agree_task(1))), [])
        self.same(list(corner_rows(agree_task(2))), [(0, 1, 2)])
        self.same(list(corner_rows(FORK)), [(0, 1, 2), (0, 4, 2)])

    def test_limits(self):
        self.assertEqual(len(list(corner_rows(many_points(50, 10, 10)))), 5000)
        self.assertEqual(len(list(corner_rows(many_points(1, 50, 1, 10, 10)))), 5000)
        for task in (many_points(5, 7, 11, 13), many_points(60, 60, 60), many_points(3, 1667)):
            self.fails(TooMany, {"word": "corners"}, lambda: first_of(corner_rows(task)))
            self.fails(TooMany, {"word": "corners"}, chain_plan, task)
        self.same(chain_plan(many_points(50, 10, 10)).corners, (0, 0, 0))

    def test_errors_only_when_the_first_value_is_asked(self):
        made = corner_rows(many_points(60, 60, 60))
        with self.assertRaises(TooMany):
            next(made)

    def test_many_inputs(self):
        inputs = Web([(point, point + 1) for point in range(39)] + [(0, 39)])
        one = Task(inputs, LINE, [Web.of((0,))] * 40 + [LINE] * 40)
        self.same(list(corner_rows(one)), [(0,) * 40])
        rooms = [Web.of((0,), (1,))] * 12 + [Web.of((1,))] * 27 + [Web.of((0,))]
        parted = Task(inputs, Web.of((0,), (1,)), rooms + [Web.of((0,), (1,))] * 40)
        self.same(list(corner_rows(parted)), [])
        self.assertIsNone(chain_plan(parted))


class TestPartedEdge(Case):
    def test_the_least_edge(self):
        self.same(parted_edge(agree_task(1), (0, 1, 2)), (0, 1))
        self.same(parted_edge(agree_task(2), [0, 1, 2]), None)
        for seed in range(60):
            task = random_task(seed)
            for row in itertools.product(*[task.room((u,)).points for u in task.inputs.points]):
                corner = dict(zip(task.inputs.points, row))
                parting = [edge for edge in task.inputs.edges
                           if task.room(edge).steps(corner[edge[0]], corner[edge[1]]) is None]
                self.same(parted_edge(task, row), parting[0] if parting else None)

    def test_errors(self):
        for ask in (lambda corners: parted_edge(FORK, corners), lambda corners: ChainPlan(FORK, corners, None)):
            for thing in NO_ROWS + ((), (0, 1), (0, 1, 2, 2), {3: 0, 5: 1, 8: 2}):
                self.fails(BadPlan, {"word": "corners", "cell": ()}, ask, thing)
            for thing in NO_NUMBERS + (9,):
                if thing != 0:
                    self.fails(BadPlan, {"word": "corners", "cell": (3,)}, ask, (thing, 9, 9))
                self.fails(BadPlan, {"word": "corners", "cell": (5,)}, ask, [0, thing, 9])
            for thing in (0, 2, 3):
                self.fails(BadPlan, {"word": "corners", "cell": (5,)}, ask, (0, thing, 2))
            self.fails(BadPlan, {"word": "corners", "cell": (8,)}, ask, (0, 4, 4))


class TestChainPlanOf(Case):
    def test_example(self):
        plan = chain_plan(agree_task(2))
        self.same([plan.corners, plan.walks, plan.walk(2, 0), plan.steps_each, least_two(agree_task(2)),
                   parted_edge(agree_task(1), (0, 1, 2)), chain_plan(agree_task(1))],
                  [(0, 1, 2), ((0, 1, 1), (0, 2, 2), (1, 2, 2)), (2, 2, 0), 2, 0, (0, 1), None])

    def test_the_least_corners_and_the_shortest_walks(self):
        for seed in range(120):
            task = random_task(seed)
            rows = joined_rows(task)
            plan = chain_plan(task)
            if not rows:
                self.assertIsNone(plan)
                continue
            corner = dict(zip(task.inputs.points, rows[0]))
            walks = [walk_between(task.room((u, v)), corner[u], corner[v]) for u, v in task.inputs.edges]
            most = max([2] + [len(walk) - 1 for walk in walks])
            self.same(plan.corners, rows[0])
            self.same(plan.walks, tuple(stretched(walk, most) for walk in walks))
            self.same(plan.steps_each, most)
            self.assertEqual(plan.task, task)
            self.assertEqual(plan, ChainPlan(task, rows[0], plan.walks))
            self.assertIs(type(plan), ChainPlan)

    def test_long_and_short(self):
        self.same(chain_plan(FAR).walks, ((0, 1, 2, 3, 4),))
        self.same(chain_plan(FORK).walks, ((0, 1, 1), (1, 2, 2)))
        wide = Task(PATH, LINE, [Web.of((0,)), Web.of((4,)), Web.of((4,)), LINE, LINE])
        self.same(chain_plan(wide).walks, ((0, 1, 2, 3, 4), (4, 4, 4, 4, 4)))
        ring = ring_web(6)
        round_it = Task(Web.of((0, 1)), ring, [Web.of((3,)), Web.of((0,)), ring])
        self.same(chain_plan(round_it).walks, ((3, 2, 1, 0),))

    def test_no_edges(self):
        plan = chain_plan(many_points(2, 3))
        self.same((plan.corners, plan.walks, plan.steps_each, list(plan)), ((0, 0), (), 2, [0, 0]))

    def test_two_names_and_chain_plans(self):
        for many in (1, 2, 3):
            self.same(chain_plan(agree_task(many)) is not None, many >= 2)
        for seed in range(60):
            task = random_task(seed)
            self.same(least_two(task) is None, chain_plan(task) is None)
            found = two_points(task, 3)
            if found is None:
                self.assertIsNone(chain_plan(task))
            else:
                self.same([parted_edge(task, row) for row in found], [None, None])
            if chain_plan(task) is None:
                for row in itertools.product(*[task.room((u,)).points for u in task.inputs.points]):
                    self.assertIsNotNone(parted_edge(task, row))


class TestChainPlan(Case):
    def setUp(self):
        self.plan = ChainPlan(FORK, [0, 1, 2], [[0, 0, 1, 1], (1, 2, 3, 2)])

    def test_parts(self):
        plan = self.plan
        self.same((plan.corners, plan.walks, plan.steps_each), ((0, 1, 2), ((0, 0, 1, 1), (1, 2, 3, 2)), 3))
        self.assertEqual(plan.task, FORK)
        self.same([plan.corner(point) for point in (3, 5, 8)], [0, 1, 2])
        self.same([plan.walk(3, 5), plan.walk(5, 3)], [(0, 0, 1, 1), (1, 1, 0, 0)])
        self.same([plan.walk(5, 8), plan.walk(8, 5)], [(1, 2, 3, 2), (2, 3, 2, 1)])
        self.same(list(plan), [0, 1, 2])
        self.same([corner for corner in plan], [0, 1, 2])

    def test_no_points_and_no_edges(self):
        for thing in NO_NUMBERS + (0, 4, 9):
            self.fails(BadInputs, {"place": -1}, self.plan.corner, thing)
            self.fails(BadInputs, {"place": -1}, self.plan.walk, thing, 5)
            self.fails(BadInputs, {"place": -1}, self.plan.walk, 5, thing)
        for one, other in ((3, 3), (3, 8), (8, 3), (5, 5), (3, 4)):
            self.fails(BadInputs, {"place": -1}, self.plan.walk, one, other)

    def test_lists_that_change_later(self):
        corners, walks = [0, 1, 2], [[0, 0, 1, 1], [1, 2, 3, 2]]
        plan = ChainPlan(FORK, corners, walks)
        corners[0] = 7
        walks[0][0] = 7
        walks.append((0,))
        self.assertEqual(plan, self.plan)
        self.same(plan.walks, ((0, 0, 1, 1), (1, 2, 3, 2)))

    def test_equal(self):
        self.same(self.plan == ChainPlan(FORK, (0, 1, 2), ((0, 0, 1, 1), (1, 2, 3, 2))), True)
        self.same(self.plan == ChainPlan(FORK, (0, 1, 2), ((0, 1, 1, 1), (1, 2, 3, 2))), False)
        self.same(self.plan != ChainPlan(FORK, (0, 1, 2), ((0, 0, 1, 1), (1, 2, 3, 2))), False)
        wider = Task(PATH, line_web(5), FORK.rooms)
        self.same(self.plan == ChainPlan(wider, (0, 1, 2), self.plan.walks), False)
        task = many_points(2, 2)
        self.same(ChainPlan(task, (0, 1), ()) == ChainPlan(task, (0, 0), ()), False)
        self.same(ChainPlan(task, (0, 1), ()) == ChainPlan(task, [0, 1], []), True)
        for thing in (None, 3, (0, 1, 2), [0, 1, 2], FORK):
            self.same(self.plan == thing, False)
            self.same(self.plan != thing, True)

    def test_number_of_walks(self):
        for thing in NO_ROWS + ((), ((0, 0, 1),), ((0, 0, 1), (1, 1, 2), (1, 1, 2))):
            self.fails(BadPlan, {"word": "walk", "cell": ()}, ChainPlan, FORK, (0, 1, 2), thing)

    def test_walks_that_are_none(self):
        good = (1, 1, 2)
        wrong = NO_ROWS + ((), (0, 2, 1), (0, 1, 0), (1, 0, 1), (0, True, 1), (0, 7, 1), (0,), (1, 0), (False, 0, 1))
        for walk in wrong:
            self.fails(BadPlan, {"word": "walk", "cell": (3, 5)}, ChainPlan, FORK, (0, 1, 2), [walk, None])
        for walk in NO_ROWS + ((1, 3, 2), (2, 2, 1), (1, 2, 3)):
            self.fails(BadPlan, {"word": "walk", "cell": (5, 8)}, ChainPlan, FORK, (0, 1, 2), [(0, 0, 1), walk])
        self.fails(BadPlan, {"word": "walk", "cell": (3, 5)}, ChainPlan, FORK, (0, 4, 2), [(0, 0, 1), good])

    def test_walks_stay_in_the_room_of_their_edge(self):
        rooms = [Web.of((0,)), Web.of((4,)), Web.of((0,), (3, 4), (0, 3))]
        task = Task(Web.of((0, 1)), LINE | Web.of((0, 3)), rooms)
        self.fails(BadPlan, {"word": "walk", "cell": (0, 1)}, ChainPlan, task, (0, 4), [(0, 1, 2, 3, 4)])
        self.same(ChainPlan(task, (0, 4), [(0, 3, 4)]).steps_each, 2)

    def test_numbers_of_steps(self):
        self.fails(BadPlan, {"word": "steps", "cell": (3, 5)}, ChainPlan, FORK, (0, 1, 2), [(0, 1), (1, 2)])
        self.fails(BadPlan, {"word": "steps", "cell": (3, 5)}, ChainPlan, FORK, (0, 1, 2), [(0, 1), None])
        self.fails(BadPlan, {"word": "steps", "cell": (5, 8)}, ChainPlan, FORK, (0, 1, 2), [(0, 1, 1), (1, 2)])
        self.fails(BadPlan, {"word": "steps", "cell": (5, 8)}, ChainPlan, FORK, (0, 1, 2), [(0, 1, 1), (1, 1, 1, 2)])
        self.fails(BadPlan, {"word": "walk", "cell": (5, 8)}, ChainPlan, FORK, (0, 1, 2), [(0, 1, 1), (1,)])
        one = Task(Web.of((0, 1)), Web.of((0,)), [Web.of((0,))] * 3)
        self.fails(BadPlan, {"word": "steps", "cell": (0, 1)}, ChainPlan, one, (0, 0), [(0,)])
        self.same(ChainPlan(one, (0, 0), [(0, 0, 0)]).steps_each, 2)


if __name__ == "__main__":
    unittest.main()
