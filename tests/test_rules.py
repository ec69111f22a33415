"""Points 21 and 50: rules, what they tell, whether they do a task."""

import itertools
import random
import unittest

from helpers import NO_NUMBERS, NO_ROWS, Case, LeafRule, all_runs, parts, rows_that_sit, sized_web
from nowaittasks.errors import BadInputs, BadNumber, BadRow, BadRun, BadView, TooMany
from nowaittasks.rounds import neat_rounds, round_of, whole_rounds
from nowaittasks.rules import Rule, TableRule, does, fails_at, told
from nowaittasks.runs import Run, neat_runs
from nowaittasks.tasks import Task, agree_task
from nowaittasks.views import seen_inputs, views_of
from nowaittasks.webs import Web

NO_VIEWS = (None, 3, (), (0, -1), (True, 0), [0, 0], (0, ()), (0, ((1, 0),)), "view")


class Count(Rule):
    """A rule that tells the least input seen, and keeps the views for which it is asked."""

    KIND = "count"

    def __init__(self, many):
        super().__init__(many)
        self.asked = []

    def point_for(self, view):
        """The least input seen."""
        self.asked.append(view)
        return seen_inputs(view)[0]


class Wrong(Exception):
    """What a rule may raise."""


class Raising(Rule):
    """A rule that raises where the input 1 was seen."""

    def point_for(self, view):
        """The point 0, if at all."""
        if 1 in seen_inputs(view):
            raise Wrong()
        return 0


def one_point_task(inputs):
    """The task over these inputs with the only output 0."""
    return Task(inputs, Web.of((0,)), [Web.of((0,))] * len(inputs))


def random_task(seed):
    """A task over few inputs, with rooms among the cells of few points."""
    chance = random.Random(seed)
    inputs = chance.choice((Web.of((0, 1)), Web.of((0, 1, 2)), Web.of((0, 1), (1, 2)), Web.of((3,))))
    outputs, rooms = Web.complete((0, 1, 2)), {}
    for cell in inputs.cells:
        room = Web([chance.choice(outputs.cells) for _ in range(chance.choice((1, 2, 4)))])
        for part in parts(cell):
            if part != cell:
                room = room | rooms[part]
        rooms[cell] = room
    return Task(inputs, outputs, [rooms[cell] for cell in inputs.cells])


def task_of_rule(inputs, rule, size):
    """The task with the least rooms that the rule does for size names."""
    rooms = []
    for cell in inputs.cells:
        points = []
        for row in itertools.product(cell, repeat=size):
            for run in neat_runs(tuple(range(size)), rule.many):
                points.append(sorted({point for _, point in told(rule, row, run)}))
        rooms.append(Web(points))
    outputs = Web(())
    for room in rooms:
        outputs = outputs | room
    return Task(inputs, outputs, rooms)


def alone_view(name, entry, many):
    """The view of a name that takes part alone."""
    view = (name, entry)
    for _ in range(many):
        view = (name, (view,))
    return view


class TestRule(Case):
    def test_rule(self):
        rule = Rule(2)
        self.same((rule.many, rule.KIND, Rule.KIND), (2, "rule", "rule"))
        self.fails(BadView, {}, rule, (0, ((0, ((0, 1),)),)))
        self.fails(BadView, {}, rule.point_for, (0, ((0, ((0, 1),)),)))
        self.fails(BadView, {}, rule, None)

    def test_number(self):
        for thing in NO_NUMBERS:
            self.fails(BadNumber, {"word": "many"}, Rule, thing)
            self.fails(BadNumber, {"word": "many"}, TableRule, thing, None)
        self.assertEqual(Rule(0).many, 0)
        self.assertEqual(Rule(40).many, 40)

    def test_a_rule_is_called_for_views_of_its_rounds_alone(self):
        rule = Count(1)
        self.same(rule((4, ((3, 9), (4, 7)))), 7)
        self.same(rule.asked, [(4, ((3, 9), (4, 7)))])
        for view in NO_VIEWS + ((0, 1), (0, ((0, ((0, 1),)),))):
            self.fails(BadView, {}, rule, view)
        self.assertEqual(len(rule.asked), 1)
        self.fails(BadView, {}, Count(0), (0, ((0, 1),)))
        self.same(Count(0)((0, 5)), 5)

    def test_views_of_many_rounds(self):
        run = Run.neat([[(0,), (1,)]] * 40)
        self.same(told(Count(40), (7, 3), run), ((0, 7), (1, 3)))


class TestTableRule(Case):
    def test_points(self):
        one, other = (0, ((0, 5),)), (1, ((0, 5), (1, 6)))
        rule = TableRule(1, [[other, 8], (one, 3)])
        self.same((rule.KIND, TableRule.KIND, rule.many), ("table", "table", 1))
        self.assertIsInstance(rule, Rule)
        self.same([rule(one), rule(other), rule.point_for(one)], [3, 8, 3])
        for view in ((0, ((0, 6),)), (1, ((1, 6),)), (0, 5), (0, ((0, ((0, 5),)),)), None):
            self.fails(BadView, {}, rule, view)
        for view in NO_VIEWS + ((0, ((0, 6),)), (0, 5), (0, ((0, ((0, 5),)),))):
            self.fails(BadView, {}, rule.point_for, view)

    def test_the_first_pair_counts(self):
        view = (0, 0)
        rule = TableRule(0, [((1, 1), 4), (view, 7), (view, 2), (view, 9), ((1, 1), 0)])
        self.same([rule(view), rule((1, 1))], [7, 4])

    def test_no_pairs(self):
        self.fails(BadView, {}, TableRule(0, ()), (0, 0))

    def test_all_views_of_some_rounds(self):
        views = {view for inputs in itertools.product((0, 1), repeat=2) for run in neat_runs((0, 1), 3)
                 for view in views_of(inputs, run)}
        pairs = [(view, place) for place, view in enumerate(sorted(views, key=repr))]
        rule = TableRule(3, pairs)
        self.same([rule(view) for view, _ in pairs], list(range(len(pairs))))

    def test_pairs_that_change_later(self):
        pairs = [[(0, 0), 1]]
        rule = TableRule(0, pairs)
        pairs[0][1] = 5
        pairs.append([(0, 1), 2])
        self.same(rule((0, 0)), 1)
        self.fails(BadView, {}, rule, (0, 1))

    def test_errors(self):
        for thing in NO_ROWS:
            self.fails(BadRow, {"place": -1}, TableRule, 0, thing)
        wrong = NO_ROWS + ((), ((0, 0),), ((0, 0), 1, 2), (0, 0), [[0, 0], 1])
        for pair in wrong + tuple((view, 0) for view in NO_VIEWS) + (((0, ((0, 0),)), 1),):
            self.fails(BadRow, {"place": 1}, TableRule, 0, [((0, 0), 1), pair, None])
        for point in NO_NUMBERS:
            self.fails(BadRow, {"place": 0}, TableRule, 0, [((0, 0), point)])
        self.fails(BadRow, {"place": 0}, TableRule, 2, [((0, ((0, 0),)), 1)])


class TestTold(Case):
    def test_pairs(self):
        run = Run.neat([[(3,), (0, 1)], [(3,), (0,)]])
        self.same(told(Count(2), [4, 9, 9, 2], run), ((0, 2), (3, 2)))
        self.same(told(Count(0), (6, 5), Run((), names=(1,))), ((1, 5),))
        self.same(told(Count(1), (6, 5, 8), Run([((0, (0, 1, 2)), (1, (1, 2)), (2, (0, 1, 2)))])),
                  ((0, 5), (1, 5), (2, 5)))

    def test_errors_in_order(self):
        run = Run.neat([[(0, 1)]])
        for ask in (lambda rule, inputs: told(rule, inputs, run),
                    lambda rule, inputs: fails_at(agree_task(2), rule, inputs, run)):
            self.fails(BadRun, {"place": -1}, ask, Count(0), None)
            self.fails(BadRun, {"place": -1}, ask, Count(2), None)
            for thing in NO_ROWS + ((0, True), (0, -1)):
                self.fails(BadInputs, {"place": -1}, ask, Raising(1), thing)
            for inputs in ((), [1]):
                self.fails(BadInputs, {"place": -2}, ask, Raising(1), inputs)
            self.fails(Wrong, {}, ask, Raising(1), (1, 7))
            self.fails(BadView, {}, ask, Rule(1), (0, 7))

    def test_fails_at(self):
        rule = Count(1)
        for blocks, due in (([(0,), (1,)], False), ([(0, 1)], False), ([(1,), (0,)], True)):
            self.same(fails_at(agree_task(1), rule, (0, 1), Run.neat([blocks])), due)
        self.same(fails_at(agree_task(2), rule, [0, 1], Run.neat([[(1,), (0,)]])), False)
        # Only the names that are left tell, but all that took part bring their inputs.
        run = Run.neat([[(0, 1)], [(1,)]])
        self.same(fails_at(agree_task(1), Count(2), (0, 1), run), False)
        self.same(fails_at(one_point_task(Web.of((0, 1))), Count(2), (0, 1), run), False)
        self.same(fails_at(one_point_task(Web.of((0, 1))), Count(2), (1, 1), run), True)

    def test_inputs_that_do_not_sit(self):
        run = Run((), names=(0, 2))
        for inputs in ((0, 0, 3), (5, 0, 0)):
            self.fails(BadInputs, {"place": -1}, fails_at, agree_task(2), Count(0), inputs, run)
        self.same(fails_at(agree_task(2), Count(0), (0, 77, 1, 9), run), False)
        path = one_point_task(Web.of((0, 1), (1, 2)))
        self.fails(BadInputs, {"place": -1}, fails_at, path, LeafRule(0, (0,), 1), (0, 1, 2), run)
        self.fails(BadInputs, {"place": -1}, fails_at, path, LeafRule(0, (0,), 1), (0, 1, 2), Run((), names=(0, 1, 2)))

    def test_points_that_are_no_outputs_fail(self):
        self.same(fails_at(agree_task(3), LeafRule(0, (7,), 1), (0, 1), Run((), names=(0, 1))), True)
        self.same(fails_at(agree_task(3), LeafRule(0, (True,), 1), (1, 1), Run((), names=(0,))), True)


class TestDoes(Case):
    def test_examples(self):
        rule = TableRule(0, [((0, 0), 0), ((0, 1), 1), ((0, 2), 2), ((1, 0), 0), ((1, 1), 1), ((1, 2), 2)])
        self.same([does(agree_task(1), rule, 2)[0], does(agree_task(2), rule, 2)], [(0, 1), None])

    def first_failing(self, task, rule, size, rounds):
        """The first pair of inputs and run that fails, from all of them in order."""
        names = tuple(range(size))
        for inputs in rows_that_sit(task.inputs, size):
            for row in itertools.product(list(rounds(names)), repeat=rule.many):
                run = Run(row, names=names)
                points = {point for _, point in told(rule, inputs, run)}
                if tuple(sorted(points)) not in task.room(inputs).cells:
                    return inputs, run
        return None

    def test_the_first_that_fails(self):
        found = 0
        for seed in range(60):
            task = random_task(seed)
            many, size = ((0, 1), (0, 2), (0, 3), (1, 1), (1, 2), (1, 3), (2, 2), (3, 1), (0, 4))[seed % 9]
            rule = LeafRule(many, (0, 1, 2)[:seed % 3 + 1], seed)
            for whole, rounds in ((False, neat_rounds), (True, whole_rounds)):
                due = self.first_failing(task, rule, size, rounds)
                got = does(task, rule, size, whole=whole)
                if due is None:
                    self.assertIsNone(got)
                    found += 1
                else:
                    self.same(got[0], due[0])
                    self.assertIs(type(got), tuple)
                    self.assertEqual(got[1], due[1])
        self.assertGreater(found, 5)

    def test_whole_looks_may_fail_alone(self):
        class Sees(Rule):
            def point_for(self, view):
                look = tuple(pair[0] for pair in view[1])
                return {(0, (0, 1)): 1, (1, (0, 1, 2)): 2}.get((view[0], look), 0)

        task = Task(Web.of((0,)), Web.of((0, 1), (0, 2)), [Web.of((0, 1), (0, 2))])
        self.assertIsNone(does(task, Sees(1), 3))
        self.assertIsNone(does(task, Sees(1), 3, whole=False))
        due = [row for row in whole_rounds((0, 1, 2)) if row[0][1] == (0, 1) and row[1][1] == (0, 1, 2)]
        self.assertEqual(does(task, Sees(1), 3, whole=True), ((0, 0, 0), Run([due[0]])))

    def test_neat_but_not_whole(self):
        class Neat(Rule):
            def point_for(self, view):
                looks = {part[0]: {pair[0] for pair in part[1]} for part in view[1]}
                return 1 if any(not looks[other] <= look for look in looks.values() for other in look & set(looks)) else 0

        task = one_point_task(Web.of((0,)))

        class Later(Neat):
            def __init__(self):
                super().__init__(2)

        self.assertIsNone(does(task, Later(), 3))
        got = does(task, Later(), 3, whole=True)
        self.assertIsNotNone(got)
        self.same(got[0], (0, 0, 0))
        self.same((got[1].full, got[1].tidy, len(got[1])), (True, False, 2))

    def test_whole_is_passed_by_keyword(self):
        with self.assertRaises(TypeError):
            does(agree_task(3), Count(0), 2, True)

    def test_full_runs_are_enough(self):
        for seed in range(24):
            task = random_task(seed)
            many, size = ((0, 2), (1, 2), (2, 2), (0, 3), (1, 3), (1, 1))[seed % 6]
            rule = LeafRule(many, (0, 1)[:seed % 2 + 1], seed)
            for whole, rounds in ((False, neat_rounds), (True, whole_rounds)):
                failing = False
                for names in parts(tuple(range(size))):
                    for run in all_runs(names, many, rounds):
                        for inputs in rows_that_sit(task.inputs, size):
                            failing = failing or fails_at(task, rule, inputs, run)
                self.same(does(task, rule, size, whole=whole) is not None, failing)

    def test_errors_in_order(self):
        for thing in NO_NUMBERS + (0,):
            self.fails(BadNumber, {"word": "size"}, does, agree_task(2), Raising(40), thing)
        self.fails(TooMany, {"word": "names"}, does, agree_task(2), Raising(40), 6)
        self.fails(TooMany, {"word": "names"}, does, agree_task(2), Raising(40), 5, whole=True)
        self.fails(TooMany, {"word": "runs"}, does, agree_task(2), Raising(40), 2)
        self.fails(Wrong, {}, does, one_point_task(Web.of((0, 1))), Raising(1), 2)
        self.fails(BadView, {}, does, agree_task(3), TableRule(0, ()), 1)

    def test_a_run_that_fails_goes_ahead_of_later_errors(self):
        task = Task(Web.of((0, 1)), Web.of((0,), (5,)), [Web.of((5,))] * 3)
        self.assertEqual(does(task, Raising(0), 1), ((0,), Run((), names=(0,))))

    def test_limits(self):
        edges = list(itertools.combinations(range(40), 2))
        rule = LeafRule(0, (0,), 1)
        # 40 rows of one input alone, 6 for each edge.
        self.assertIsNone(does(one_point_task(Web(edges[:660], points=list(range(40)))), rule, 3))
        self.fails(TooMany, {"word": "runs"}, does, one_point_task(Web(edges[:661], points=list(range(40)))), rule, 3)
        # 19 rounds with whole looks: 210 and 211 rows of inputs.
        rule = LeafRule(1, (0,), 1)
        edges = list(itertools.combinations(range(30), 2))[:30]
        self.assertIsNone(does(one_point_task(Web(edges, points=list(range(30)))), rule, 3, whole=True))
        far = one_point_task(Web(edges, points=list(range(31))))
        self.fails(TooMany, {"word": "runs"}, does, far, rule, 3, whole=True)
        self.assertIsNone(does(far, rule, 3))

    def test_limits_with_triangles(self):
        rule = LeafRule(0, (0,), 1)
        for size, points, edges, triangles in ((3, 40, 620, 40), (4, 40, 180, 40), (5, 40, 82, 10)):
            self.assertIsNone(does(one_point_task(sized_web(points, edges, triangles)), rule, size))
            for wide in (sized_web(points + 1, edges, triangles), sized_web(points, edges + 1, triangles),
                         sized_web(points, edges, triangles + 1)):
                self.fails(TooMany, {"word": "runs"}, does, one_point_task(wide), rule, size)

    def test_five_names(self):
        task = one_point_task(Web.of((0, 1), (2,)))
        self.assertIsNone(does(task, LeafRule(0, (0,), 1), 5))
        self.assertIsNone(does(one_point_task(Web.of((3,))), LeafRule(1, (0,), 1), 5))
        self.assertIsNone(does(one_point_task(Web.of((3,))), LeafRule(1, (0,), 1), 4, whole=True))
        self.assertIsNone(does(one_point_task(Web.of((3,))), LeafRule(40, (0,), 1), 1, whole=True))

    def test_three_names_in_one_triangle(self):
        task = Task(Web.of((0, 1, 2)), Web.of((0, 1, 2)), [Web.of((0, 1, 2))] * 6 + [Web.of((0, 1, 2))])
        self.assertIsNone(does(task, Count(1), 3))
        self.assertEqual(does(agree_task(2), Count(0), 3)[0], (0, 1, 2))


class TestEveryRule(Case):
    def test_points_told_alone_are_near(self):
        for seed in range(40):
            size, many = ((2, 0), (2, 1), (2, 2), (3, 0), (3, 1), (4, 0), (3, 1))[seed % 7]
            inputs = Web.of((0, 1, 2)) if seed % 2 else Web.of((0, 1), (1, 2))
            rule = LeafRule(many, tuple(range(3 if size == 4 else 3 + seed % 5)), seed)
            task = task_of_rule(inputs, rule, size)
            self.assertIsNone(does(task, rule, size))
            most = (3 if size == 2 else 2) ** many
            for u, v in itertools.product(inputs.points, repeat=2):
                if not inputs.sits((u, v)):
                    continue
                for i, j in itertools.permutations(range(size), 2):
                    one, other = rule(alone_view(i, u, many)), rule(alone_view(j, v, many))
                    self.assertLessEqual(task.room((u, v)).steps(one, other), most)


class TestRoundOf(Case):
    def test_told_by_rounds_as_rows(self):
        row = [[0, [0, 1]], [1, [1]]]
        self.assertEqual(told(Count(1), (4, 2), Run([row])), told(Count(1), (4, 2), Run([round_of([[1], [0]])])))


if __name__ == "__main__":
    unittest.main()
