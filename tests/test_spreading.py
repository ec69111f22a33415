"""Points 48 and 51: the pinned rule, lines by halving, the line rule, least rounds."""

import itertools
import random
import unittest

from helpers import NO_NUMBERS, Case, line_web, ring_web, rows_that_sit
from nowaittasks.balls import is_helly
from nowaittasks.corners import ChainPlan
from nowaittasks.cuts import ViewWeb
from nowaittasks.errors import BadNumber, BadPlan, BadView, NotHelly, NotJoined, NotThin, TooMany
from nowaittasks.halving import rounds_for
from nowaittasks.pinned import Pinned, barring_pair, least_rounds, pinned_task
from nowaittasks.rounds import neat_rounds
from nowaittasks.rules import Rule, does, told
from nowaittasks.runs import Run, neat_runs
from nowaittasks.spreading import LineRule, PinnedRule, line_least, line_steps
from nowaittasks.tasks import Task
from nowaittasks.twos import least_two
from nowaittasks.views import seen_inputs, views_of
from nowaittasks.walks import walk_between
from nowaittasks.webs import Web
from test_halving import agrees, point_by_words
from test_pinned import random_pinned


class TestPinnedRule(Case):
    def test_does_the_task(self):
        tried = {}
        for seed in range(160):
            pinned = random_pinned(seed, 5)
            if not is_helly(pinned.graph):
                continue
            task = pinned_task(pinned)
            for size, many in ((2, 0), (2, 1), (2, 2), (3, 0), (3, 1)):
                if barring_pair(pinned, size, many) is None:
                    rule = PinnedRule(pinned, size, many)
                    self.assertEqual([rule.many, rule.KIND], [many, "pinned"])
                    self.assertIsInstance(rule, Rule)
                    self.assertIsNone(does(task, rule, size))
                    tried[(size, many)] = tried.get((size, many), 0) + 1
        self.assertGreater(min(tried.values()), 25)
        self.assertEqual(len(tried), 5)

    def test_just_at_the_least_rounds(self):
        for steps, size in itertools.product(range(10), (2, 3)):
            pinned = Pinned(Web.of((3, 8)), line_web(9), [(3, 0), (8, steps)])
            least = least_rounds(pinned, size)
            if size == 2 or least < 3:
                self.assertIsNone(does(pinned_task(pinned), PinnedRule(pinned, size, least), size))
            for many in range(least):
                self.fails(BadPlan, {"word": "pair", "cell": (3, 8)}, PinnedRule, pinned, size, many)

    def test_points_numbered_in_any_order(self):
        for seed in range(40):
            chance = random.Random(seed)
            names = chance.sample(range(20), 9)
            graph = Web([(names[place - chance.choice((1, 1, 2))] if place > 1 else names[0], names[place])
                         for place in range(1, 9)])
            inputs = chance.choice((Web.of((0, 1)), Web.of((0, 1), (1, 2)), Web.of((0, 1, 2))))
            pins = [(u, chance.choice(graph.points)) for u in inputs.points[:chance.choice((1, 2))]]
            pinned = Pinned(inputs, graph, pins)
            for size, many in ((2, 1), (2, 2), (3, 1)):
                if barring_pair(pinned, size, many) is None:
                    self.assertIsNone(does(pinned_task(pinned), PinnedRule(pinned, size, many), size))

    def test_two_rounds_of_three_names(self):
        pinned = Pinned(Web.of((0, 1)), Web.complete((0, 1, 2)) | Web.of((1, 3), (2, 3), (3, 4), (4, 5)),
                        [(0, 5), (1, 0)])
        rule = PinnedRule(pinned, 3, 2)
        self.assertIsNone(does(pinned_task(pinned), rule, 3))
        self.assertIsNone(does(pinned_task(pinned), rule, 2))

    def test_told_views(self):
        for seed in (3, 8, 20):
            pinned = Pinned(Web.of((0, 1), (1, 4)), line_web(5), [(0, seed % 3), (4, 1)])
            for size, many in ((2, 0), (2, 1), (2, 3), (3, 0), (3, 1)):
                if barring_pair(pinned, size, many) is not None:
                    continue
                rule = PinnedRule(pinned, size, many)
                views = ViewWeb(pinned.inputs, size, many).views
                self.same(tuple(view for view, _ in rule.told_views), views)
                self.same(rule.told_views, tuple((view, rule(view)) for view in views))
                self.same(PinnedRule(pinned, size, many).told_views, rule.told_views)
                for view, point in rule.told_views:
                    if seen_inputs(view) == (0,):
                        self.same(point, seed % 3)

    def test_other_views(self):
        rule = PinnedRule(Pinned(Web.of((0, 1), (2, 3)), line_web(2), [(0, 0)]), 2, 1)
        for view in (None, (0, 0), (0, ((0, 9),)), (2, ((2, 0),)), (0, ((0, 0), (1, 2))), (0, ((0, 0), (2, 1))),
                     (0, ((0, ((0, 0),)),)), (0, [(0, 0)]), (0, ((0, True),))):
            self.fails(BadView, {}, rule, view)
            self.fails(BadView, {}, rule.point_for, view)

    def test_no_pins_and_inputs_that_are_not_joined(self):
        for inputs in (Web.of((3,)), Web.of((0, 1, 2)), Web.of((0, 1), (4, 5), (7,))):
            pinned = Pinned(inputs, line_web(3), ())
            self.assertIsNone(does(pinned_task(pinned), PinnedRule(pinned, 3, 1), 3))
        pinned = Pinned(Web.of((0, 1), (4, 5)), line_web(9), [(0, 0), (1, 1), (5, 9)])
        self.assertIsNone(does(pinned_task(pinned), PinnedRule(pinned, 3, 0), 3))

    def test_many_views(self):
        pinned = Pinned(Web.of((0, 1)), line_web(59), [(0, 0), (1, 59)])
        rule = PinnedRule(pinned, 2, 6)
        self.assertEqual(len(rule.told_views), len(ViewWeb(pinned.inputs, 2, 6).views))
        for run in list(neat_runs((0, 1), 6))[::5]:
            points = [point for _, point in told(rule, (0, 1), run)]
            self.assertLessEqual(abs(points[0] - points[1]), 1)

    def test_errors_in_order(self):
        bad = Pinned(Web.of((0, 1)), ring_web(4), [(0, 0), (1, 2)])
        self.fails(NotHelly, {}, PinnedRule, bad, 5, -1)
        far = Pinned(Web.of((0, 1)), line_web(4), [(0, 0), (1, 4)])
        for size in NO_NUMBERS + (0, 1, 4):
            self.fails(BadNumber, {"word": "size"}, PinnedRule, far, size, -1)
        for many in NO_NUMBERS:
            self.fails(BadNumber, {"word": "many"}, PinnedRule, far, 2, many)
        wide = Web([(0, point) for point in range(1, 55)])
        self.fails(BadPlan, {"word": "pair", "cell": (0, 5)}, PinnedRule,
                   Pinned(wide, line_web(9), [(5, 9), (0, 0)]), 3, 1)
        # A row for each input and 6 for each edge: 302 rows of 13 runs may be, 309 are too many.
        less, more = [Web([(0, point) for point in range(1, many)]) for many in (44, 45)]
        self.assertGreater(len(PinnedRule(Pinned(less, line_web(1), ()), 3, 1).told_views), 900)
        self.fails(TooMany, {"word": "runs"}, PinnedRule, Pinned(more, line_web(1), ()), 3, 1)
        self.fails(TooMany, {"word": "runs"}, PinnedRule, Pinned(Web.of((0, 1)), line_web(1), ()), 3, 3)


def line_task(inputs, outputs, points):
    """Inputs without a triangle, a point for each, and the same room for all edges."""
    return Task(inputs, outputs, [Web.of((point,)) for point in points] + [outputs] * len(inputs.edges))


STAR = Web.of((1, 4), (4, 6), (4, 9))
LINE_TASKS = [
    line_task(Web.of((0, 1)), line_web(4), (0, 4)), line_task(Web.of((0, 1)), line_web(4), (4, 1)),
    line_task(Web.of((2, 5)), line_web(1), (0, 1)), line_task(Web.of((2, 5)), line_web(1), (1, 1)),
    line_task(STAR, line_web(7), (0, 3, 3, 7)), line_task(STAR, ring_web(9), (0, 3, 3, 7)),
    line_task(ring_web(4), Web.of((0, 1, 2), (1, 2, 3)), (0, 3, 3, 1)), line_task(Web((), points=(3, 5)), line_web(2), (0, 2)),
]


class TestLines(Case):
    def walks(self, task):
        """The shortest walk of each edge of the inputs."""
        corner = {u: task.room((u,)).points[0] for u in task.inputs.points}
        return {(u, v): walk_between(task.room((u, v)), corner[u], corner[v]) for u, v in task.inputs.edges}

    def test_steps(self):
        self.same([line_steps(task) for task in LINE_TASKS], [4, 3, 1, 0, 4, 4, 2, 0])
        for task in LINE_TASKS:
            steps = [len(walk) - 1 for walk in self.walks(task).values()]
            self.same(line_steps(task), max([0] + steps))

    def test_least(self):
        for steps in range(30):
            task = line_task(Web.of((1, 3)), line_web(30), (0, steps))
            for size in (2, 3, 4, 60):
                base = 3 if size == 2 else 2
                self.same(line_least(task, size), min(r for r in range(9) if base ** r >= steps))
        self.same([line_least(task, 2) for task in LINE_TASKS], [2, 1, 0, 0, 2, 2, 1, 0])
        self.same([line_least(task, 3) for task in LINE_TASKS], [2, 2, 0, 0, 2, 2, 1, 0])

    def test_no_fewer_for_two_names(self):
        for task in LINE_TASKS:
            self.same(line_least(task, 2), least_two(task))

    def test_each_room_has_its_own_steps(self):
        line, ring = line_web(6), ring_web(8)
        rooms = [Web.of((0,)), Web.of((3,)), Web.of((6,)), line, Web.of((3, 4), (4, 5), (5, 6), (6, 7))]
        task = Task(Web.of((0, 1), (1, 2)), ring | line | Web.of((6, 7)), rooms)
        self.same(line_steps(task), 3)
        around = Task(Web.of((0, 1), (1, 2)), ring | line, rooms[:3] + [line, ring])
        self.same([line_steps(around), line_least(around, 3), line_least(around, 2)], [3, 2, 1])

    def test_rule_by_words(self):
        for task in LINE_TASKS:
            rule = LineRule(task)
            self.same([rule.many, rule.KIND], [rounds_for(max(1, line_steps(task))), "line"])
            self.assertIsInstance(rule, Rule)
            plan = WalksAlone(task, self.walks(task))
            for run in neat_runs((0, 1, 2), rule.many):
                for inputs in itertools.product(task.inputs.points[:3], repeat=3):
                    for view in views_of(inputs, run):
                        agrees(self, rule, lambda: point_by_words(plan, view, rule.many, 0), view)

    def test_does_the_task(self):
        tried = 0
        for task in LINE_TASKS:
            rule = LineRule(task)
            for size, many, whole in ((1, 1, 1), (2, 3, 3), (3, 13, 19), (4, 75, 10 ** 4)):
                rows = len(rows_that_sit(task.inputs, size))
                if rows * many ** rule.many <= 4000:
                    self.assertIsNone(does(task, rule, size))
                    tried += 1
                if rows * whole ** rule.many <= 4000:
                    self.assertIsNone(does(task, rule, size, whole=True))
                    tried += 1
        self.assertGreater(tried, 40)

    def test_no_steps(self):
        # Both inputs have the same point, so they are both the place 0 of their walk.
        task = line_task(Web.of((0, 1), (1, 2)), line_web(2), (0, 0, 2))
        rule = LineRule(task)
        self.same(rule.many, 1)
        run = Run.neat([((0, 1),)])
        self.same([told(rule, (0, 1), run), told(rule, (1, 2), run), told(rule, (2, 1), run)],
                  [((0, 0), (1, 0)), ((0, 1), (1, 1)), ((0, 1), (1, 1))])
        farther = line_task(Web.of((0, 1), (1, 2)), line_web(4), (0, 0, 4))
        # After a round with 0 the name with input 1 holds 0, which with 2 makes no edge.
        view = (0, ((0, ((0, 1), (1, 0))), (2, ((2, 2),))))
        self.fails(BadView, {}, LineRule(farther), view)
        self.same(LineRule(farther)((0, ((0, ((0, 1),)), (2, ((2, 2),))))), 2)

    def test_views_that_cannot_be_halved(self):
        rule = LineRule(LINE_TASKS[4])
        alone = ((0, ((0, 1),)), (1, ((1, 6),)), (2, ((2, 9),)))
        saw = (1, ((0, 1), (1, 4)))
        # Two places on unlike walks, a place and a point that is no end of its walk.
        self.fails(BadView, {}, rule, (1, (saw, (2, ((0, 4), (2, 9))))))
        self.fails(BadView, {}, rule, (1, (saw, (2, ((2, 9),)))))
        self.same(rule((1, (saw, (2, ((2, 4),))))), 2)
        for view in ((0, alone[:2]), (0, alone), (0, ((0, ((0, 5),)),)), (0, ((0, ((0, 1), (1, 9))),)), None, (0, 1),
                     (0, alone[0]), (0, ((0, 1),)), (1, alone[1:2] + ((2, ((1, 1), (2, 9))),))):
            self.fails(BadView, {}, rule, view)

    def test_errors_in_order(self):
        line = line_web(2)
        parted = Web.of((0, 1), (3, 4))
        full = Web.of((0, 1, 2), (1, 2, 3))
        triangles = Task(full, parted, [parted] * len(full))
        wide = Task(Web.of((0, 1), (1, 2)), parted, [Web.of((0,)), parted, parted, parted, parted])
        path = Web.of((0, 1), (1, 2), (2, 3))
        apart = Task(path, parted, [Web.of((0,)), Web.of((1,)), Web.of((3,)), Web.of((1,)), parted, parted, parted])
        two = Task(Web.of((0, 1)), line, [Web.of((0,)), Web.of((0,), (1,)), line])
        self.fails(BadPlan, {"word": "corners", "cell": (1,)}, line_steps, two)
        for call in (line_steps, LineRule, lambda task: line_least(task, 1)):
            self.fails(NotThin, {"cell": (0, 1, 2)}, call, triangles)
            self.fails(BadPlan, {"word": "corners", "cell": (1,)}, call, wide)
            self.fails(NotJoined, {"cell": (1, 2)}, call, apart)
        for size in NO_NUMBERS + (0, 1):
            self.fails(BadNumber, {"word": "size"}, line_least, line_task(Web.of((0, 1)), line, (0, 2)), size)


class WalksAlone:
    """What the words of point 36 ask of a plan, for walks of unlike numbers of steps."""

    def __init__(self, task, walks):
        self.task, self.walks = task, walks

    def walk(self, u, v):
        """The walk of an edge."""
        return self.walks[(u, v)]

    def corner(self, u):
        """The only point of an input."""
        return self.task.room((u,)).points[0]


if __name__ == "__main__":
    unittest.main()
