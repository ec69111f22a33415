"""Points 33, 34 and 35: two names."""

import itertools
import unittest

from helpers import NO_NUMBERS, NO_ROWS, Case, LeafRule, line_web, ring_web
from nowaittasks.corners import chain_plan
from nowaittasks.errors import BadNumber, BadPlan, BadView, TooMany
from nowaittasks.mates import run_at
from nowaittasks.rules import Rule, does, told
from nowaittasks.runs import Run
from nowaittasks.tasks import Task, agree_task
from nowaittasks.twos import PathRule, least_two, two_fit, two_points
from nowaittasks.views import views_of
from nowaittasks.walks import walk_between
from nowaittasks.webs import Web
from test_corners import many_points, random_task
from test_rules import alone_view, task_of_rule

LINE = line_web(4)
FAR = Task(Web.of((0, 1)), LINE, [Web.of((0,)), Web.of((4,)), LINE])


def line_task(many):
    """The inputs 0 and 1 with the ends of a line of so many edges."""
    line = line_web(many)
    return Task(Web.of((0, 1)), line, [Web.of((0,)), Web.of((many,)), line])


def crossed_task(own_edges):
    """Over the edges of three inputs i: the corners i and 3 + i, each next to those of the other kind."""
    inputs = Web.of((0, 1), (1, 2), (0, 2))
    outputs = Web([(one, other) for one in range(3) for other in range(3, 6)])
    rooms = [Web.of((u, u + 3)) if own_edges else Web.of((u,), (u + 3,)) for u in range(3)]
    for u, v in inputs.edges:
        rooms.append(Web.of((u, v + 3), (v, u + 3)) | rooms[u] | rooms[v])
    return Task(inputs, outputs, rooms)


def fit_by_words(task, firsts, seconds, many):
    """Whether the rows of corners fit, straight from point 33."""
    points = task.inputs.points
    for (u, one), (v, other) in itertools.product(zip(points, firsts), zip(points, seconds)):
        if task.inputs.sits((u, v)):
            steps = task.room((u, v)).steps(one, other)
            if steps is None or steps > 3 ** many:
                return False
    return True


def all_corner_rows(task):
    """All rows of corners, ascending."""
    return list(itertools.product(*[task.room((u,)).points for u in task.inputs.points]))


class TestTwoFit(Case):
    def test_all_pairs_of_rows(self):
        good = 0
        for seed in range(40):
            task = random_task(seed)
            rows = all_corner_rows(task)
            for firsts, seconds in list(itertools.product(rows, repeat=2))[::max(1, len(rows) ** 2 // 60)]:
                for many in (0, 1, 2):
                    due = fit_by_words(task, firsts, seconds, many)
                    self.same(two_fit(task, firsts, list(seconds), many), due)
                    good += due
        self.assertGreater(good, 50)

    def test_limits_of_steps(self):
        for many in range(4):
            self.same(two_fit(line_task(3 ** many), (0, 3 ** many), (0, 3 ** many), many), True)
            self.same(two_fit(line_task(3 ** many + 1), (0, 3 ** many + 1), (0, 3 ** many + 1), many), False)
        self.same(two_fit(line_task(59), (0, 59), (0, 59), 40), True)

    def test_both_orders_and_each_point_alone(self):
        wide = Task(Web.of((0, 1)), LINE, [Web.of((0, 1), (1, 2)), Web.of((2, 3)), LINE])
        self.same(two_fit(wide, (2, 3), (2, 2), 0), True)
        self.same(two_fit(wide, (1, 2), (1, 3), 0), False)
        self.same(two_fit(wide, (0, 2), (2, 2), 0), False)
        self.same(two_fit(wide, (1, 2), (0, 2), 0), False)
        self.same(two_fit(wide, (0, 2), (1, 2), 0), False)
        # Two corners of one input must be near in the room of this input.
        apart = Task(Web.of((0, 1)), LINE, [Web.of((0,), (1,)), Web.of((1,)), LINE])
        self.same(two_fit(apart, (0, 1), (1, 1), 5), False)
        self.same(two_fit(apart, (0, 1), (0, 1), 0), True)

    def test_what_is_no_row_of_corners(self):
        for thing in NO_ROWS + ((), (0,), (0, 4, 4), (0, 3), (4, 0), (False, 4), (0, None), [0, [4]]):
            self.same(two_fit(FAR, thing, (0, 4), 9), False)
            self.same(two_fit(FAR, (0, 4), thing, 9), False)
        self.same(two_fit(FAR, [0, 4], (0, 4), 9), True)

    def test_number(self):
        for thing in NO_NUMBERS:
            self.fails(BadNumber, {"word": "many"}, two_fit, FAR, (0, 4), (0, 4), thing)
            self.fails(BadNumber, {"word": "many"}, two_fit, FAR, None, None, thing)


class TestTwoPoints(Case):
    def test_the_least_pair(self):
        found = 0
        for seed in range(60):
            task = random_task(seed)
            rows = all_corner_rows(task)
            if len(rows) > 18:
                rows = rows[:0]
            for many in (0, 1):
                fitting = [(firsts, seconds) for firsts, seconds in itertools.product(rows, repeat=2)
                           if fit_by_words(task, firsts, seconds, many)]
                turns = sorted(fitting, key=lambda pair: [corner for both in zip(*pair) for corner in both])
                if rows:
                    self.same(two_points(task, many), turns[0] if turns else None)
                    found += bool(turns)
        self.assertGreater(found, 20)

    def test_rows_that_must_be_unlike(self):
        # Round the three inputs no row fits itself: of any two corners one must be below 3, one not.
        task = crossed_task(True)
        self.same(two_points(task, 0), ((0, 1, 2), (3, 4, 5)))
        self.same(two_fit(task, (0, 1, 2), (3, 4, 5), 0), True)
        self.same(two_fit(task, (3, 4, 5), (0, 1, 2), 0), True)
        self.assertFalse([row for row in all_corner_rows(task) if two_fit(task, row, row, 0)])
        self.same(least_two(task), 0)
        self.assertIsNone(does(task, PathRule(task, (3, 4, 5), (0, 1, 2), 0), 2))
        self.assertIsNone(does(task, PathRule(task, (0, 1, 2), (3, 4, 5), 1), 2))

    def test_the_two_corners_of_one_input(self):
        # The same, but the two corners of an input are not joined in its own room.
        task = crossed_task(False)
        self.same([two_fit(task, (0, 1, 2), (3, 4, 5), many) for many in (0, 1, 5)], [False] * 3)
        self.same([two_points(task, many) for many in (0, 1, 5)], [None] * 3)
        self.assertIsNone(least_two(task))

    def test_some_rows(self):
        outputs = Web.of((0, 1), (2, 3), (1, 2))
        rooms = [Web.of((0, 1)), Web.of((2, 3)), Web.of((0, 1), (2, 3), (0, 3), (1, 2))]
        task = Task(Web.of((4, 6)), Web.of((0, 1), (1, 2), (2, 3), (0, 3)), rooms)
        self.same(two_points(task, 0), ((0, 3), (0, 3)))
        rooms = [Web.of((0, 1)), Web.of((2,)), outputs]
        self.same(two_points(Task(Web.of((4, 6)), LINE, rooms), 0), ((1, 2), (1, 2)))

    def test_none(self):
        self.same(two_points(FAR, 1), None)
        self.same(two_points(FAR, 2), ((0, 4), (0, 4)))
        self.same(two_points(agree_task(1), 5), None)

    def test_errors_in_order(self):
        for thing in NO_NUMBERS:
            self.fails(BadNumber, {"word": "many"}, two_points, many_points(60, 60), thing)
        for task in (many_points(7, 8, 9), many_points(60, 60), many_points(3, 167)):
            self.fails(TooMany, {"word": "corners"}, two_points, task, 0)
            self.fails(TooMany, {"word": "corners"}, least_two, task)
        # Also where no row is joined.
        outputs = Web((), points=list(range(60)))
        rooms = [Web((), points=list(range(22))), Web((), points=list(range(30, 53))), outputs]
        self.assertIsNone(chain_plan(Task(Web.of((0, 1)), outputs, rooms)))
        self.fails(TooMany, {"word": "corners"}, least_two, Task(Web.of((0, 1)), outputs, rooms))
        self.same(two_points(many_points(10, 50), 0), ((0, 0), (0, 0)))
        self.same(least_two(many_points(10, 1, 50)), 0)

    def test_many_inputs(self):
        inputs = Web([(point, point + 1) for point in range(39)] + [(0, 39)])
        rooms = [Web.of((0,), (1,))] * 8 + [Web.of((1,))] * 31 + [Web.of((0,))]
        parted = Task(inputs, Web.of((0,), (1,)), rooms + [Web.of((0,), (1,))] * 40)
        self.assertIsNone(two_points(parted, 3))
        self.assertIsNone(least_two(parted))
        near = Task(inputs, Web.of((0, 1)), rooms + [Web.of((0, 1))] * 40)
        self.same(least_two(near), 0)


class TestLeastTwo(Case):
    def test_lines(self):
        self.same([least_two(line_task(many)) for many in (0, 1, 2, 3, 4, 9, 10, 27, 28, 59)],
                  [0, 0, 1, 1, 2, 2, 3, 3, 4, 4])

    def test_the_first_number_that_fits(self):
        for seed in range(60):
            task = random_task(seed)
            least = least_two(task)
            if least is None:
                self.assertIsNone(chain_plan(task))
                self.assertIsNone(two_points(task, 4))
                continue
            self.assertIsNotNone(two_points(task, least))
            if least > 0:
                self.assertIsNone(two_points(task, least - 1))

    def test_other_tasks(self):
        self.same([least_two(agree_task(many)) for many in (1, 2, 3)], [None, 0, 0])
        ring = ring_web(8)
        self.same(least_two(Task(Web.of((0, 1)), ring, [Web.of((0,)), Web.of((4,)), ring])), 2)


class TestPathRule(Case):
    def test_places_word_for_word(self):
        tasks = [(FAR, (0, 4), (0, 4), 2), (FAR, (0, 4), (0, 4), 3), (agree_task(2), (0, 1, 2), (0, 1, 2), 1)]
        tasks += [(line_task(3 ** many), (0, 3 ** many), (0, 3 ** many), many) for many in range(4)]
        tasks += [(crossed_task(True), (0, 1, 2), (3, 4, 5), many) for many in range(3)]
        wide = Task(Web.of((2, 5)), LINE, [Web.of((0, 1), (1, 2)), Web.of((3, 4)), LINE])
        tasks += [(wide, (0, 4), (2, 3), 2), (wide, (2, 3), (0, 3), 1)]
        for task, firsts, seconds, many in tasks:
            rule = PathRule(task, list(firsts), seconds, many)
            first = dict(zip(task.inputs.points, firsts))
            second = dict(zip(task.inputs.points, seconds))
            for u, v in itertools.product(task.inputs.points, repeat=2):
                walk = walk_between(task.room((u, v)), first[u], second[v])
                walk = walk + walk[-1:] * 3 ** many
                inputs = [u, v]
                for place in range(3 ** many):
                    views = views_of(inputs, run_at(place, many))
                    even = place % 2
                    self.same(rule(views[even]), walk[place])
                    self.same(rule(views[1 - even]), walk[place + 1])

    def test_alone(self):
        wide = Task(Web.of((2, 5)), LINE, [Web.of((0, 1), (1, 2)), Web.of((3, 4)), LINE])
        rule = PathRule(wide, (0, 4), (2, 3), 2)
        self.same([rule(alone_view(0, 2, 2)), rule(alone_view(0, 5, 2))], [0, 4])
        self.same([rule(alone_view(1, 2, 2)), rule(alone_view(1, 5, 2))], [2, 3])
        none = PathRule(agree_task(2), (0, 1, 2), (0, 1, 2), 0)
        self.same([none((name, entry)) for name in (0, 1) for entry in (0, 1, 2)], [0, 1, 2, 0, 1, 2])

    def test_kind(self):
        rule = PathRule(FAR, (0, 4), (0, 4), 2)
        self.same((rule.KIND, PathRule.KIND, rule.many), ("path", "path", 2))
        self.assertIsInstance(rule, Rule)

    def test_the_path_rule_does_the_task(self):
        done = 0
        for seed in range(60):
            task = random_task(seed)
            for many in (0, 1, 2):
                found = two_points(task, many)
                if found is not None:
                    self.assertIsNone(does(task, PathRule(task, found[0], found[1], many), 2))
                    done += 1
        self.assertGreater(done, 40)
        self.assertIsNone(does(FAR, PathRule(FAR, (0, 4), (0, 4), 2), 2, whole=True))

    def test_all_rows_that_fit(self):
        wide = Task(Web.of((2, 5)), LINE, [Web.of((0, 1), (1, 2)), Web.of((3, 4)), LINE])
        for firsts, seconds in itertools.product(all_corner_rows(wide), repeat=2):
            if two_fit(wide, firsts, seconds, 1):
                self.assertIsNone(does(wide, PathRule(wide, firsts, seconds, 1), 2))
            else:
                self.fails(BadPlan, {"word": "corners", "cell": ()}, PathRule, wide, firsts, seconds, 1)

    def test_errors_in_order(self):
        for thing in NO_NUMBERS:
            self.fails(BadNumber, {"word": "many"}, PathRule, FAR, None, None, thing)
        for firsts, seconds in ((None, (0, 4)), ((0, 4), 3), ((0,), (0, 4)), ((0, 4), (0, 3))):
            self.fails(BadPlan, {"word": "corners", "cell": ()}, PathRule, FAR, firsts, seconds, 5)
        self.fails(BadPlan, {"word": "corners", "cell": ()}, PathRule, FAR, (0, 4), (0, 4), 1)

    def test_rows_that_change_later(self):
        firsts, seconds = [0, 4], [0, 4]
        rule = PathRule(FAR, firsts, seconds, 2)
        firsts[0] = seconds[0] = 3
        self.same(rule(alone_view(0, 0, 2)), 0)
        self.same(rule(alone_view(1, 0, 2)), 0)

    def test_views(self):
        rule = PathRule(FAR, (0, 4), (0, 4), 2)
        for view in (alone_view(2, 0, 2), alone_view(0, 3, 2), alone_view(0, 0, 1), None,
                     views_of((0, 0, 0), Run.neat([[(0, 2)], [(0,)]]))[0],
                     views_of((0, 2), Run.neat([[(0, 1)], [(0, 1)]]))[1]):
            self.fails(BadView, {}, rule, view)
        for view in (alone_view(2, 0, 2), alone_view(1, 3, 2), views_of((0, 0, 0), Run.neat([[(0, 2)], [(0,)]]))[0]):
            self.fails(BadView, {}, rule.point_for, view)
        path = Task(Web.of((0, 1), (1, 2)), LINE, [Web.of((0,))] * 5)
        rule = PathRule(path, (0, 0, 0), (0, 0, 0), 1)
        self.fails(BadView, {}, rule, views_of((0, 2), Run.neat([[(0,), (1,)]]))[1])
        self.same(rule(views_of((0, 2), Run.neat([[(0,), (1,)]]))[0]), 0)

    def test_names_that_stopped(self):
        rule = PathRule(FAR, (0, 4), (0, 4), 2)
        self.same(told(rule, (0, 1), Run.neat([[(0, 1)], [(1,)]])), ((1, 3),))
        self.same(told(rule, (0, 1), Run.neat([[(0, 1)], [(0,)]])), ((0, 4),))

    def test_many_rounds(self):
        task = line_task(59)
        rule = PathRule(task, (0, 59), (0, 59), 40)
        run = Run.neat([[(0,), (1,)]] * 40)
        self.same(told(rule, (0, 1), run), ((0, 0), (1, 1)))
        run = Run.neat([[(1,), (0,)]] * 40)
        self.same(told(rule, (0, 1), run), ((0, 59), (1, 59)))
        self.same(told(rule, (0, 1), Run.neat([[(1,), (0,)]] + [[(0,), (1,)]] * 39)), ((0, 59), (1, 59)))
        self.same(told(rule, (0, 1), Run.neat([[(0,), (1,)]] * 37 + [[(0,)]] * 3)), ((0, 0),))


class TestLonePoints(Case):
    def test_lone_points_of_any_rule_fit(self):
        for seed in range(40):
            many = seed % 3
            inputs = Web.of((0, 1), (1, 2)) if seed % 2 else Web.of((0, 1))
            rule = LeafRule(many, tuple(range(3 + seed % 5)), seed)
            task = task_of_rule(inputs, rule, 2)
            self.assertIsNone(does(task, rule, 2))
            firsts = [rule(alone_view(0, u, many)) for u in inputs.points]
            seconds = [rule(alone_view(1, u, many)) for u in inputs.points]
            self.same(two_fit(task, firsts, seconds, many), True)
            self.assertIsNotNone(chain_plan(task))
            self.assertLessEqual(least_two(task), many)


if __name__ == "__main__":
    unittest.main()
