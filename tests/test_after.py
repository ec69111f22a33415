"""Points 121 to 126 and 129: tasks after a box; rules, chain plans and sum plans put together; boxes in a row."""

import itertools
import random
import unittest

from helpers import Case, LeafRule, all_runs, line_web, ring_web, rows_that_sit
from nowaittasks.after import after_chain, after_rule, after_sums, after_task
from nowaittasks.borders import walk_chain
from nowaittasks.corners import ChainPlan, chain_plan, corner_rows
from nowaittasks.errors import BadNumber, BadPlan, BadTask, BadView
from nowaittasks.labels import LabelRule
from nowaittasks.pictures import Picture
from nowaittasks.planrules import plan_rule
from nowaittasks.plans import Plan, cone_plan
from nowaittasks.rounds import neat_rounds
from nowaittasks.rules import Rule, TableRule, does, told
from nowaittasks.runs import Run, neat_runs
from nowaittasks.shifted import shifted_task
from nowaittasks.spreading import LineRule
from nowaittasks.sumplans import SumPlan, has_sums, plan_sums, sum_plan
from nowaittasks.tasks import Task, agree_task
from nowaittasks.views import views_of
from nowaittasks.walks import stretched
from nowaittasks.webs import Web
from test_borders import chain_by_words
from test_rules import Raising, Wrong, alone_view, task_of_rule
from test_sumplans import FULL, ODD_TASK, SIX, TWICE

EDGE = Web.of((0, 1))


def rest_by_words(task, box):
    """The rooms of what is left, straight from point 121: a dict from cells to rows of cells."""
    rooms = {}
    for web in box.rooms:
        for cell in web.cells:
            over = [s for s in box.inputs.cells if cell in box.room(s).cells]
            rooms[cell] = [c for c in task.outputs.cells if all(c in task.room(s).cells for s in over)]
    return rooms


def random_pair(seed, inputs=None):
    """Two tasks with the same inputs: one with large rooms, and a box."""
    chance = random.Random(seed)
    if inputs is None:
        inputs = chance.choice((EDGE, FULL, FULL, Web.of((0, 1), (1, 2)), Web.of((2, 5, 6), (5, 6, 7)), Web.of((3,))))
    return random_rooms(chance, inputs, 5, (2, 3, 3)), random_rooms(chance, inputs, 4, (1, 2, 2))


def random_rooms(chance, inputs, many, sizes):
    """A task over these inputs; each room has up to so many random cells and those of its parts."""
    rooms = {}
    for cell in inputs.cells:
        cells = [part for other in inputs.cells if set(other) < set(cell) for part in rooms[other].cells]
        for _ in range(chance.randint(1, sizes[len(cell) - 1])):
            cells.append(tuple(chance.sample(range(many), min(len(cell), chance.randint(1, 3)))))
        rooms[cell] = Web(cells)
    return Task(inputs, Web.complete(range_row(many)), [rooms[cell] for cell in inputs.cells])


def range_row(many):
    """The row of the integers below a number."""
    return tuple(range(many))


def good_pairs_of(count, inputs=None):
    """The first pairs of tasks for which something is left to do: triples with the task that is left."""
    found = []
    seed = 0
    while len(found) < count:
        task, box = random_pair(seed, inputs)
        if all(rest_by_words(task, box).values()):
            found.append((task, box, after_task(task, box)))
        seed += 1
    return found


def wide_pair(seed):
    """Two tasks over a triangle with large rooms, and the task that is left."""
    chance = random.Random(seed)
    whole = Web.complete((0, 1, 2, 3))
    task, box = random_rooms(chance, FULL, 4, (2, 1, 1)), random_rooms(chance, FULL, 4, (1, 3, 1))
    task = Task(FULL, whole, task.rooms[:3] + (whole,) * 4)
    box = Task(FULL, whole, box.rooms[:6] + (whole,))
    if not all(rest_by_words(task, box).values()):
        return wide_pair(seed + 1000)
    return task, box, after_task(task, box)


class TestAfterTask(Case):
    def test_by_words(self):
        told_room = {True: 0, False: 0}
        for seed in range(400):
            task, box = random_pair(seed)
            rooms = rest_by_words(task, box)
            empty = sorted([(len(cell), cell) for cell in rooms if not rooms[cell]])
            told_room[not empty] += 1
            if empty:
                self.fails(BadTask, {"word": "room", "cell": empty[0][1]}, after_task, task, box)
            else:
                rest = after_task(task, box)
                self.assertIs(type(rest), Task)
                self.assertEqual([rest.inputs, rest.outputs], [Web(list(rooms)), task.outputs])
                for cell in rest.inputs.cells:
                    self.same(rest.room(cell).cells, tuple(sorted(rooms[cell], key=lambda row: (len(row), row))))
        self.assertTrue(min(told_room.values()) > 60, told_room)

    def test_points_of_the_box_that_are_in_no_room(self):
        box = Task(EDGE, ring_web(5), [Web.of((0,)), Web.of((1,)), Web.of((0, 1))])
        rest = after_task(Task(EDGE, FULL, [Web.of((2,)), FULL, FULL]), box)
        self.assertEqual([rest.inputs, rest.room((0,)), rest.room((1,)), rest.room((1, 0))], [EDGE, Web.of((2,)), FULL, FULL])

    def test_itself_and_all(self):
        for many in (1, 2, 3):
            rest = after_task(agree_task(many), agree_task(many))
            self.assertIsNone(does(rest, TableRule(0, [((name, point), point) for name in range(3) for point in range(3)]), 3))
        free = Task(FULL, FULL, [FULL] * 7)
        self.assertEqual(after_task(free, agree_task(2)).rooms, (FULL,) * 6)
        # Behind a box that tells all of them anything, each room is what all have in common.
        self.fails(BadTask, {"word": "room", "cell": (0,)}, after_task, agree_task(3), free)

    def test_errors(self):
        self.fails(BadTask, {"word": "inputs", "cell": ()}, after_task, agree_task(2), SIXTH)
        self.fails(BadTask, {"word": "inputs", "cell": ()}, after_task, SIXTH, agree_task(2))
        for cell, point in (((0,), 0), ((1,), 1)):
            task = Task(EDGE, FULL, [Web.of((0,)), Web.of((1,)), Web.of((0,), (1,))])
            box = Task(EDGE, line_web(2), [Web.of((point,)), Web.of((point,)), Web.of((0, 1))])
            self.fails(BadTask, {"word": "room", "cell": cell}, after_task, task, box)
        # Points have rooms, and the edge between them has none.
        split = Task(Web.of((0,), (1,)), FULL, [Web.of((0,)), Web.of((1,))])
        box = Task(Web.of((0,), (1,)), FULL, [Web.of((0, 1)), Web.of((0, 1))])
        self.fails(BadTask, {"word": "room", "cell": (0,)}, after_task, split, box)


SIXTH = Task(EDGE, FULL, [FULL] * 3)


def does_by_words(task, box, rest, rule, size):
    """Whether a rule does what point 122 asks, from its words."""
    for many in range(1, size + 1):
        for names in itertools.combinations(range(size), many):
            for run in all_runs(names, rule.many, neat_rounds):
                for row in rows_that_sit(rest.inputs, len(names)):
                    inputs = dict(zip(names, row))
                    full = [inputs.get(name, 0) for name in range(size)]
                    points = [point for _, point in told(rule, full, run)]
                    for s in box.inputs.cells:
                        if box.room(s).sits(row) and not task.room(s).sits(points):
                            return False
    return True


class TestWhatIsAsked(Case):
    def test_point_122(self):
        seen = {}
        for place, (task, box, rest) in enumerate(good_pairs_of(90)):
            for many, size in ((0, 2), (0, 3), (1, 2)):
                rule = LeafRule(many, (0, 1, 2, 3, 4), place)
                if many == 0 and place % 2:
                    chosen = {c: rest.room(c).points[0] for c in rest.inputs.cells if len(c) == 1}
                    rule = TableRule(0, [((name, c[0]), chosen[c]) for c in chosen for name in range(size)])
                good = does(rest, rule, size) is None
                self.assertEqual(does_by_words(task, box, rest, rule, size), good)
                seen[size, good] = seen.get((size, good), 0) + 1
        self.assertTrue(len(seen) == 4 and min(seen.values()) > 10, seen)


def put_together(first, second, view):
    """What point 123 tells: the pair of a name and its point in the place of each view of first.many rounds."""
    def replaced(part, left):
        if left == 0:
            return (part[0], first(part))
        return (part[0], tuple(replaced(inner, left - 1) for inner in part[1]))

    return second(replaced(view, second.many))


class TestAfterRule(Case):
    def test_by_words(self):
        for seed, (one, other) in enumerate(itertools.product((0, 1, 2), repeat=2)):
            first, second = LeafRule(one, (0, 3, 5, 8), seed), LeafRule(other, (1, 2, 9), seed + 1)
            rule = after_rule(first, second)
            self.assertIsInstance(rule, Rule)
            self.same([rule.KIND, rule.many], ["after", one + other])
            for names in ((0, 1), (0, 1, 2), (4,)):
                runs = list(neat_runs(names, one + other)) if (13 if len(names) > 2 else 3) ** (one + other) < 3000 else []
                for run in runs[::max(1, len(runs) // 40)]:
                    for view in views_of((7, 4, 4, 0, 1), run):
                        self.same([rule(view), rule.point_for(view)], [put_together(first, second, view)] * 2)

    def test_runs_in_which_names_stop(self):
        first, second = LeafRule(1, (0, 1, 2), 3), LeafRule(1, (5, 6), 4)
        rule = after_rule(first, second)
        for run in all_runs((0, 1, 2), 2, neat_rounds)[::7]:
            self.same(told(rule, (1, 0, 1), run),
                      tuple((view[0], put_together(first, second, view)) for view in views_of((1, 0, 1), run)))

    def test_what_is_done(self):
        # The least task that the second rule does behind the least one that the first rule does.
        for seed, (one, other, size) in enumerate([(0, 0, 3), (1, 0, 3), (0, 1, 3), (1, 1, 2), (2, 1, 2), (1, 2, 2), (0, 0, 2)]):
            chance = random.Random(seed)
            inputs = chance.choice((EDGE, FULL)) if size == 2 or one + other < 2 else EDGE
            first, second = LeafRule(one, (0, 1, 2), seed), LeafRule(other, (3, 4, 6), seed)
            box = task_of_rule(inputs, first, size)
            web = Web([cell for room in box.rooms for cell in room.cells])
            rest = task_of_rule(web, second, size)
            rooms = [Web([cell for part in room.cells for cell in rest.room(part).cells]) for room in box.rooms]
            task = Task(inputs, rest.outputs, rooms)
            left = after_task(task, box)
            self.assertIsNone(does(box, first, size))
            self.assertIsNone(does(left, second, size))
            self.assertIsNone(does(task, after_rule(first, second), size))

    def test_errors_of_views_and_rules(self):
        rule = after_rule(LeafRule(1, (0,), 1), LeafRule(1, (0,), 1))
        for view in (None, (0, 1), alone_view(0, 1, 1), alone_view(0, 1, 3), (0, ()), "view"):
            self.fails(BadView, {}, rule, view)
        good = LeafRule(0, (1,), 1)
        for first, second in ((Raising(0), good), (good, Raising(0)), (Raising(1), good), (good, Raising(1))):
            with self.assertRaises(Wrong):
                after_rule(first, second)(alone_view(0, 1, first.many + second.many))
        # A label that is no point makes no view.
        self.fails(BadView, {}, after_rule(LabelRule(Picture(EDGE), (-1, 4)), good), (0, 0))
        self.same(after_rule(LabelRule(Picture(EDGE), (-1, 4)), TableRule(0, [((0, 4), 7)]))((0, 1)), 7)

    def test_many_rounds(self):
        run = Run.neat([((0,), (1,))] * 40)
        rule = after_rule(LeafRule(25, (0, 1), 2), LeafRule(15, (0, 1), 2))
        self.same(rule.many, 40)
        self.assertEqual(len(told(rule, (0, 1), run)), 2)


def random_chain(chance, task):
    """A chain plan of a task with any corners, walks with spurs and repeats, None if there is none."""
    rows = list(corner_rows(task))
    if not rows:
        return None
    corners = chance.choice(rows)
    corner = dict(zip(task.inputs.points, corners))
    walks = []
    for u, v in task.inputs.edges:
        room, walk = task.room((u, v)), [corner[u]]
        for _ in range(chance.randrange(3)):
            walk.append(chance.choice(room.neighbours(walk[-1]) + (walk[-1],)))
        while walk[-1] != corner[v]:
            near = room.neighbours(walk[-1])
            walk.append(min(near, key=lambda point: (room.steps(point, corner[v]), point)))
        walks.append(walk)
    most = max([2] + [len(walk) - 1 for walk in walks])
    return ChainPlan(task, corners, [stretched(walk, most) for walk in walks])


class TestAfterChain(Case):
    def check(self, task, first, second):
        """The chain plan is what point 124 says."""
        chain = after_chain(task, first, second)
        self.assertIs(type(chain), ChainPlan)
        self.assertEqual(chain.task, task)
        corner = dict(zip(second.task.inputs.points, second.corners))
        self.same(chain.corners, tuple(corner[point] for point in first.corners))
        due = []
        for walk in first.walks:
            found = [corner[walk[0]]]
            for x, y in zip(walk, walk[1:]):
                found += (corner[x],) * second.steps_each if x == y else second.walk(x, y)[1:]
            due.append(tuple(found))
        self.same(chain.walks, tuple(due))
        for walk in chain.walks:
            self.assertEqual(len(walk) - 1, first.steps_each * second.steps_each)

    def test_by_words(self):
        done = 0
        for place, (task, box, rest) in enumerate(good_pairs_of(150)):
            chance = random.Random(place)
            first, second = random_chain(chance, box), random_chain(chance, rest)
            if first is not None and second is not None:
                self.check(task, first, second)
                done += 1
        self.assertGreater(done, 40)

    def test_no_edges_of_inputs(self):
        inputs = Web.of((2,), (5,))
        box = Task(inputs, line_web(2), [Web.of((0,)), Web.of((2,))])
        task = Task(inputs, FULL, [Web.of((1,)), FULL])
        first, second = chain_plan(box), chain_plan(after_task(task, box))
        self.check(task, first, second)
        self.same([after_chain(task, first, second).corners, after_chain(task, first, second).walks], [(1, 0), ()])

    def test_plans_are_chain_plans(self):
        first = cone_plan(agree_task(3))
        second = cone_plan(after_task(agree_task(3), agree_task(3)))
        self.check(agree_task(3), first, second)

    def test_errors(self):
        task, box = agree_task(2), agree_task(2)
        rest = after_task(task, box)
        first, second = chain_plan(box), chain_plan(rest)
        self.check(task, first, second)
        other = ChainPlan(Task(rest.inputs, rest.outputs, (rest.outputs,) * len(rest.inputs)), second.corners, second.walks)
        self.fails(BadPlan, {"word": "after", "cell": ()}, after_chain, task, first, other)
        self.fails(BadPlan, {"word": "after", "cell": ()}, after_chain, agree_task(3), first, second)
        self.fails(BadTask, {"word": "inputs", "cell": ()}, after_chain, SIXTH, first, other)
        whole = chain_plan(Task(FULL, FULL, [FULL] * 7))
        self.fails(BadTask, {"word": "room", "cell": (0,)}, after_chain, task, whole, other)


class TestAfterSums(Case):
    def check(self, task, first, second):
        """The sum plan is what point 125 says."""
        sums = after_sums(task, first, second)
        self.assertIs(type(sums), SumPlan)
        self.assertEqual(sums.task, task)
        corner = dict(zip(second.task.inputs.points, second.corners))
        self.same([sums.hours, sums.corners], [first.hours, tuple(corner[point] for point in first.corners)])
        side = dict(zip(second.task.inputs.edges, second.sides))
        sheet = dict(zip(second.task.inputs.triangles, second.sheets))
        for got, chains, at in ((sums.sides, first.sides, side), (sums.sheets, first.sheets, sheet)):
            due = [chain_by_words([(cell, times * number) for place, times in chain for cell, number in at[place]], first.hours)
                   for chain in chains]
            self.same(got, tuple(due))

    def test_by_words(self):
        done = {}
        full = [wide_pair(seed) for seed in range(40)]
        for task, box, rest in good_pairs_of(60) + full:
            for hours in (0, 2, 3):
                first = [sum_plan(box, corners, hours) for corners in list(corner_rows(box))[-1:]]
                second = [sum_plan(rest, corners, hours) for corners in list(corner_rows(rest))[-1:]]
                if first + second and None not in first + second and first and second:
                    self.check(task, first[0], second[0])
                    triangles = len(first[0].sheets) > 0 and len(second[0].sheets) > 0
                    done[hours, triangles] = done.get((hours, triangles), 0) + 1
        self.assertTrue(len(done) == 6 and min(done.values()) > 4, done)

    def test_twice_round(self):
        # The box goes round its room three times where the hours are 3, and the sheets of the second plan with it.
        first = sum_plan(ODD_TASK, (0, 1, 3), 3)
        task = Task(FULL, TWICE, list(ODD_TASK.rooms[:6]) + [TWICE])
        rest = after_task(Task(FULL, FULL, [FULL] * 7), ODD_TASK)
        second = sum_plan(rest, (0, 1, 0, 2, 1, 0), 3)
        self.check(Task(FULL, FULL, [FULL] * 7), first, second)
        self.assertTrue(any(first.sheets[0]) and task is not None)
        self.same(has_sums(ODD_TASK, 0), False)

    def test_the_sums_of_chain_plans(self):
        # The sides of plans put together are the steps of the walks put together.
        for hours in (0, 2, 5):
            first, second = cone_plan(agree_task(3)), cone_plan(after_task(agree_task(3), agree_task(3)))
            sums = after_sums(agree_task(3), plan_sums(first, hours), plan_sums(second, hours))
            chain = after_chain(agree_task(3), first, second)
            self.same(sums.sides, tuple(walk_chain(walk, hours) for walk in chain.walks))

    def test_errors(self):
        plan = cone_plan(agree_task(3))
        rest = cone_plan(after_task(agree_task(3), agree_task(3)))
        good = plan_sums(rest, 2)
        self.fails(BadNumber, {"word": "hours"}, after_sums, agree_task(3), plan_sums(plan, 0), good)
        self.fails(BadNumber, {"word": "hours"}, after_sums, SIXTH, plan_sums(plan, 3), good)
        self.fails(BadTask, {"word": "inputs", "cell": ()}, after_sums, SIXTH, plan_sums(plan, 2), good)
        wide = sum_plan(Task(FULL, FULL, [FULL] * 7), (0, 0, 0), 2)
        self.fails(BadPlan, {"word": "after", "cell": ()}, after_sums, agree_task(3), plan_sums(plan, 2), wide)
        self.fails(BadTask, {"word": "room", "cell": (0,)}, after_sums, agree_task(2), wide, good)


class TestBoxesInARow(Case):
    def test_what_has_no_sums_keeps_none(self):
        # T has none, each box has some, so what is left has none.
        bars = 0
        for seed in range(2500):
            chance = random.Random(seed)
            task = agree_task(2) if seed % 2 else random_rooms(chance, FULL, 4, (1, 1, 1))
            hours = chance.choice((2, 3, 0))
            if has_sums(task, hours):
                continue
            for _ in range(2):
                box = random_rooms(chance, task.inputs, 4, (1, 1, 2))
                if chance.random() < 0.4:
                    box = Task(task.inputs, task.inputs, [Web.complete(cell) & task.inputs for cell in task.inputs.cells])
                if not has_sums(box, hours) or not all(rest_by_words(task, box).values()):
                    break
                task = after_task(task, box)
                if len(task.inputs.points) > 6:
                    break
                self.assertFalse(has_sums(task, hours))
                bars += 1
                if chance.random() < 0.2 and len(task.inputs) <= 7:
                    task = shifted_task(task, Picture(task.inputs).great())
                    self.assertFalse(has_sums(task, hours))
        self.assertGreater(bars, 100)


class TestTwoAgreedOn(Case):
    def test_what_is_left_is_done_exactly_with_a_chain_plan(self):
        told_plans = {True: 0, False: 0}
        for seed in range(200):
            chance = random.Random(seed)
            inputs = chance.choice((FULL, Web.of((1, 3, 4), (3, 4, 5)), Web.of((0, 1), (1, 2)), EDGE))
            task = random_rooms(chance, inputs, 5, (2, 3, 3))
            box = Task(inputs, Web(inputs.edges, points=inputs.points), [
                Web([part for part in inputs.edges if set(part) <= set(cell)], points=cell) for cell in inputs.cells])
            rest = after_task(task, box)
            self.assertTrue(rest.inputs.thin)
            chain, left = chain_plan(task), chain_plan(rest)
            told_plans[chain is not None] += 1
            self.assertEqual(chain is None, left is None)
            if left is not None:
                plan = Plan(rest, left.corners, left.walks, ())
                if plan.rounds_needed < 2 and len(inputs.points) < 4:
                    self.assertIsNone(does(rest, plan_rule(plan), 3))
            else:
                self.assertFalse(has_sums(rest, 2))
        self.assertTrue(min(told_plans.values()) > 20, told_plans)

    def test_some(self):
        two = agree_task(2)
        self.assertIsNone(chain_plan(after_task(agree_task(1), two)))
        # Behind two agreed on a walk round the ring of six is all that is asked.
        self.same([has_sums(SIX, 2), has_sums(after_task(SIX, two), 2)], [False, True])
        for task in (two, SIX, agree_task(3)):
            rest = after_task(task, two)
            chain = chain_plan(rest)
            rule = plan_rule(Plan(rest, chain.corners, chain.walks, ()))
            if rule.many < 2:
                self.assertIsNone(does(rest, rule, 3))
        self.assertIsNone(does(after_task(SIX, two), LineRule(after_task(SIX, two)), 3))


if __name__ == "__main__":
    unittest.main()
