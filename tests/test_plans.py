"""Points 80 and 84: plans, the ring of a triangle, cone plans."""

import itertools
import unittest

from helpers import NO_ROWS, Case, line_web
from nowaittasks.corners import ChainPlan, chain_plan
from nowaittasks.errors import BadInputs, BadPlan, TooMany
from nowaittasks.labels import labels_fault
from nowaittasks.planrules import plan_picture
from nowaittasks.plans import Plan, cone_plan, ring_of
from nowaittasks.rings import coned_at
from nowaittasks.tasks import Task, agree_task
from nowaittasks.webs import Web
from test_corners import many_points, random_task
from test_fillings import BY_CHANGES, BY_INSERTS, DISC

# Over two triangles with the edge 3 7 in common: the disc, whose ring is filled, and a cone.
INPUTS = Web.of((1, 3, 7), (3, 7, 8))
CONE = Web.of((2, 3, 9), (3, 4, 9), (2, 9, 10), (4, 9, 10))
TWO_TASK = Task(INPUTS, DISC | CONE, [
    Web.of((0,)), Web.of((2,)), Web.of((4,)), Web.of((10,)),
    DISC, DISC, Web.of((2, 3), (3, 4)), Web.of((2, 10)), Web.of((4, 10)), DISC, CONE])
CORNERS = (0, 2, 4, 10)
WALKS = ((0, 1, 2), (0, 5, 4), (2, 3, 4), (2, 10, 10), (4, 10, 10))
PLAN = Plan(TWO_TASK, CORNERS, WALKS, (BY_CHANGES, ()))
LONG = Plan(TWO_TASK, CORNERS, WALKS, (BY_INSERTS, ((),)))
# Three inputs in a triangle that is no cell.
EDGES = Task(Web.of((0, 1), (1, 2), (0, 2)), line_web(4), [Web.of((0,)), Web.of((2,)), Web.of((4,))] + [line_web(4)] * 3)


class TestRingOf(Case):
    def test_by_words(self):
        for u, v, w, due in ((1, 3, 7, (0, 1, 2, 3, 4, 5)), (3, 7, 8, (2, 3, 4, 10, 10, 10))):
            for triangle in itertools.permutations((u, v, w)):
                self.same([ring_of(PLAN, triangle), ring_of(PLAN, list(triangle)), PLAN.ring(*triangle)], [due] * 3)
        chain = chain_plan(agree_task(2))
        self.same(ring_of(chain, (2, 0, 1)), (0, 1, 1, 2, 2, 2))

    def test_longer_walks(self):
        line = line_web(3)
        task = Task(Web.complete((0, 1, 2)), line, [line] * 7)
        chain = ChainPlan(task, (0, 3, 1), [(0, 1, 2, 3), (0, 1, 1, 1), (3, 2, 1, 1)])
        self.same(ring_of(chain, (0, 1, 2)), (0, 1, 2, 3, 2, 1, 1, 1, 1))

    def test_no_triangles(self):
        for triangle in NO_ROWS + ((), (1,), (1, 3), (1, 3, 8), (1, 3, 3), (1, 3, 7, 7), (1, 3, 7, 8), (0, 1, 2),
                                   (1, 3, None), (True, 3, 7), "137"):
            self.fails(BadInputs, {"place": -1}, ring_of, PLAN, triangle)
        for triangle in ((1, 3, 8), (1, 3, 3), (1, 3, None), (True, 3, 7), ((1,), 3, 7), ("1", "3", "7")):
            self.fails(BadInputs, {"place": -1}, PLAN.ring, *triangle)
            self.fails(BadInputs, {"place": -1}, PLAN.filling, *triangle)
        self.fails(BadInputs, {"place": -1}, ring_of, chain_plan(EDGES), (0, 1, 2))


class TestPlan(Case):
    def test_attributes(self):
        self.assertIsInstance(PLAN, ChainPlan)
        self.assertEqual(PLAN.task, TWO_TASK)
        self.same([PLAN.corners, PLAN.walks, PLAN.fillings], [CORNERS, WALKS, (BY_CHANGES, ())])
        self.same([PLAN.steps_each, PLAN.corner(7), PLAN.walk(7, 1), tuple(PLAN)], [2, 4, (4, 5, 0), CORNERS])
        for triangle in itertools.permutations((1, 3, 7)):
            self.same([PLAN.filling(*triangle), LONG.filling(*triangle)], [BY_CHANGES, BY_INSERTS])
        self.same([PLAN.filling(8, 3, 7), LONG.filling(8, 3, 7)], [(), ((),)])

    def test_layers_and_rounds(self):
        self.same([PLAN.most_layers, PLAN.rounds_needed], [2, 3])
        self.same([LONG.most_layers, LONG.rounds_needed], [5, 6])
        second = Plan(TWO_TASK, CORNERS, WALKS, (BY_CHANGES, ((), (), (("insert", 5, 9),))))
        self.same([second.most_layers, second.rounds_needed], [3, 4])
        for steps, rounds in ((2, 1), (3, 2), (4, 2), (5, 3)):
            plan = Plan(agree_task(3), (0, 1, 2), [(0, 1) + (1,) * (steps - 1), (0, 2) + (2,) * (steps - 1),
                                                   (1, 2) + (2,) * (steps - 1)], [()])
            self.same([plan.most_layers, plan.rounds_needed], [0, rounds])
        none = Plan(many_points(2, 3), (1, 2), (), ())
        self.same([none.most_layers, none.rounds_needed, none.steps_each, none.fillings], [0, 0, 2, ()])
        edges = Plan(EDGES, (0, 2, 4), chain_plan(EDGES).walks, [])
        self.same([edges.most_layers, edges.rounds_needed, edges.fillings], [0, 2, ()])

    def test_rows_become_tuples_and_stay(self):
        fillings = [[[list(move) for move in layer] for layer in BY_CHANGES], []]
        walks = [list(walk) for walk in WALKS]
        plan = Plan(TWO_TASK, list(CORNERS), walks, fillings)
        self.same([plan.corners, plan.walks, plan.fillings], [CORNERS, WALKS, (BY_CHANGES, ())])
        fillings[0][0][0][1] = 5
        fillings[1].append([])
        walks[0][1] = 5
        self.same([plan.walks, plan.fillings], [WALKS, (BY_CHANGES, ())])
        self.assertTrue(plan == PLAN)

    def test_equal(self):
        chain = ChainPlan(TWO_TASK, CORNERS, WALKS)
        same = Plan(TWO_TASK, CORNERS, WALKS, (BY_CHANGES, ()))
        self.assertTrue(PLAN == same)
        self.assertFalse(PLAN != same)
        for one, other in ((PLAN, LONG), (PLAN, chain), (LONG, chain), (PLAN, None), (PLAN, PLAN.fillings)):
            self.assertIs(one == other, False)
            self.assertIs(other == one, False)
            self.assertIs(one != other, True)
            self.assertIs(other != one, True)
        edges = chain_plan(EDGES)
        more = Plan(EDGES, edges.corners, edges.walks, ())
        self.assertIs(edges == more, False)
        self.assertIs(more == edges, False)
        self.assertTrue(more == Plan(EDGES, edges.corners, edges.walks, []))
        other_walks = ((0, 1, 2), (0, 5, 4), (2, 3, 4), (2, 2, 10), (4, 10, 10))
        self.assertIs(PLAN == Plan(TWO_TASK, CORNERS, other_walks, (BY_CHANGES, ())), False)
        greater = Task(INPUTS, DISC | CONE | Web.of((70,)), TWO_TASK.rooms)
        self.assertIs(PLAN == Plan(greater, CORNERS, WALKS, (BY_CHANGES, ())), False)
        whole = Task(INPUTS, DISC | CONE, [DISC | CONE] * len(INPUTS))
        walks = [(0, 0, 0)] * 5
        plans = [Plan(whole, (point,) * 4, [(point,) * 3] * 5, ((), ())) for point in (0, 3)]
        self.assertIs(plans[0] == plans[1], False)
        self.assertTrue(plans[0] == Plan(whole, (0,) * 4, walks, [[], []]))
        alone = [Plan(many_points(2, 3), corners, (), ()) for corners in ((1, 2), (1, 1), [1, 2])]
        self.assertIs(alone[0] == alone[1], False)
        self.assertTrue(alone[0] == alone[2])

    def test_errors_in_order(self):
        for corners in NO_ROWS + ((0, 2, 4), (0, 2, 4, 10, 1)):
            self.fails(BadPlan, {"word": "corners", "cell": ()}, Plan, TWO_TASK, corners, None, None)
        self.fails(BadPlan, {"word": "corners", "cell": (3,)}, Plan, TWO_TASK, (0, 3, 4, 11), None, None)
        self.fails(BadPlan, {"word": "walk", "cell": ()}, Plan, TWO_TASK, CORNERS, WALKS[:4], None)
        self.fails(BadPlan, {"word": "walk", "cell": (1, 7)}, Plan, TWO_TASK, CORNERS, WALKS[:1] * 5, None)
        self.fails(BadPlan, {"word": "steps", "cell": (3, 8)}, Plan, TWO_TASK, CORNERS,
                   WALKS[:3] + ((2, 10, 10, 10),) + WALKS[4:], None)
        for fillings in NO_ROWS + ((), (BY_CHANGES,), (BY_CHANGES, (), ())):
            self.fails(BadPlan, {"word": "filling", "cell": ()}, Plan, TWO_TASK, CORNERS, WALKS, fillings)
        for filling in NO_ROWS + ((), BY_CHANGES[:1], ((("change", 0, 9),),), [None], BY_CHANGES[::-1]):
            self.fails(BadPlan, {"word": "filling", "cell": (1, 3, 7)}, Plan, TWO_TASK, CORNERS, WALKS, (filling, None))
        for filling in NO_ROWS + (((("change", 0, 9),), (("change", 0, 0),)), ((("insert", 6, 9),),), BY_CHANGES):
            self.fails(BadPlan, {"word": "filling", "cell": (3, 7, 8)}, Plan, TWO_TASK, CORNERS, WALKS,
                       [BY_CHANGES, filling])


class TestConePlan(Case):
    def test_agree(self):
        plan = cone_plan(agree_task(3))
        self.assertIs(type(plan), Plan)
        chain = chain_plan(agree_task(3))
        self.same([plan.corners, plan.walks, plan.fillings], [chain.corners, chain.walks, ((),)])
        self.assertIsNone(cone_plan(agree_task(2)))
        self.assertIsNone(cone_plan(agree_task(1)))

    def test_without_triangles(self):
        plan = cone_plan(EDGES)
        self.same([plan.corners, plan.walks, plan.fillings], [(0, 2, 4), chain_plan(EDGES).walks, ()])
        self.same(cone_plan(many_points(3, 2)).corners, (0, 0))

    def test_by_words(self):
        found = {True: 0, False: 0}
        for seed in range(200):
            task = random_task(seed)
            chain = chain_plan(task)
            good = chain is not None and all(coned_at(task.room(triangle), ring_of(chain, triangle)) is not None
                                             for triangle in task.inputs.triangles)
            plan = cone_plan(task)
            self.assertIs(plan is not None, good)
            if good:
                self.assertTrue(plan == Plan(task, chain.corners, chain.walks, [()] * len(task.inputs.triangles)))
            found[good] += chain is not None
        self.assertGreater(found[True], 30)

    def test_rooms_that_are_cones(self):
        task = Task(INPUTS, DISC | CONE, [
            Web.of((2,)), Web.of((2,)), Web.of((4,)), Web.of((10,)), CONE, CONE, CONE, CONE, CONE, CONE, CONE])
        plan = cone_plan(task)
        self.same([plan.walks, plan.fillings], [((2, 2, 2), (2, 3, 4), (2, 3, 4), (2, 10, 10), (4, 10, 10)), ((), ())])
        self.assertIsNone(cone_plan(TWO_TASK))
        picture, labels = plan_picture(plan)
        self.assertIsNone(labels_fault(task, picture, labels))

    def test_one_triangle_alone_may_lack_a_cone(self):
        # The ring of the first triangle is coned, that of the second one is not.
        inputs = Web.of((0, 1, 2), (1, 2, 3))
        rooms = [Web.of((point,)) for point in (2, 2, 4, 0)] + [CONE, CONE, CONE, DISC, DISC, CONE, DISC]
        task = Task(inputs, DISC | CONE, [rooms[place] if place != 6 else Web.of((2, 3), (3, 4)) for place in range(11)])
        self.assertIsNotNone(chain_plan(task))
        self.assertIsNone(cone_plan(task))

    def test_limits(self):
        self.fails(TooMany, {"word": "corners"}, cone_plan, many_points(50, 101))
        self.same(len(cone_plan(many_points(50, 100)).corners), 2)


if __name__ == "__main__":
    unittest.main()
