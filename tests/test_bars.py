"""Point 98: bars of corners."""

import inspect
import itertools
import random
import unittest

from helpers import NO_ROWS, Case, first_of, line_web, ring_web
from nowaittasks.bars import Bar, bar_of, bars
from nowaittasks.clocks import Clock, heights_clock
from nowaittasks.corners import ChainPlan, corner_rows
from nowaittasks.errors import BadNumber, BadPlan, TooMany
from nowaittasks.plans import ring_of
from nowaittasks.pulling import can_pull
from nowaittasks.sumplans import good_pairs, sum_plan
from nowaittasks.solving import least_bad
from nowaittasks.tasks import Task, agree_task
from nowaittasks.webs import Web
from test_borders import NO_HOURS
from test_clocks import NO_INTEGERS
from test_corners import many_points
from test_sumplans import FULL, ODD_TASK, SIX, random_small_task

NO_LEAST = NO_HOURS + (0,)
TWO = agree_task(2)
CIRCLE = TWO.room((0, 1, 2))
# A clock that goes round the three outputs once, and heights that rise with it.
CLOCK = Clock(CIRCLE, (1, 0, 0), 3)
RISES = (((0, 0), (1, 1)), ((0, 0), (2, 0)), ((1, 0), (2, 0)))


def bar_faults(task, corners, clocks, heights, hours):
    """What is wrong with a bar, straight from point 98."""
    corner, clock_of = dict(zip(task.inputs.points, corners)), dict(zip(task.inputs.triangles, clocks))
    found, total = [], 0
    for triangle, clock in clock_of.items():
        if clock.hours != hours or clock.web != task.room(triangle):
            found.append(triangle)
    for (u, v), row in zip(task.inputs.edges, heights):
        height, room = dict(row), task.room((u, v))
        if tuple(height) != room.part(corner[u]):
            found.append((u, v))
        for x, y in room.edges:
            if x in height:
                due = 0
                for triangle, clock in clock_of.items():
                    if u in triangle and v in triangle:
                        outer = (u, v) == (triangle[0], triangle[2])
                        due += -clock.at(x, y) if outer else clock.at(x, y)
                if (height[y] - height[x] - due) % hours:
                    found.append((u, v, x, y))
        total += height[corner[v]] - height[corner[u]]
    return found, total % hours


class TestBar(Case):
    def check(self, bar, task, corners, hours):
        """A bar is what point 98 asks, in tuples."""
        self.assertIs(type(bar), Bar)
        self.assertEqual(bar.task, task)
        self.same([bar.corners, bar.hours], [tuple(corners), hours])
        self.assertEqual([type(bar.clocks), len(bar.clocks)], [tuple, len(task.inputs.triangles)])
        self.assertEqual(len(bar.heights), len(task.inputs.edges))
        self.same(bar.heights, tuple(tuple((point, height % hours) for point, height in row) for row in bar.heights))
        self.assertTrue(all(0 <= height < hours for row in bar.heights for _, height in row))
        faults, total = bar_faults(task, corners, bar.clocks, bar.heights, hours)
        self.assertEqual(faults, [])
        self.same(bar.total, total)
        self.assertNotEqual(total, 0)

    def test_either_a_bar_or_a_sum_plan(self):
        barred = {hours: 0 for hours in (2, 3, 4, 6)}
        for seed in range(400):
            task = random_small_task(seed)
            for corners in list(corner_rows(task))[:4]:
                for hours in barred:
                    bar = bar_of(task, list(corners), hours)
                    self.assertEqual(bar is None, sum_plan(task, corners, hours) is not None)
                    if bar is not None:
                        barred[hours] += 1
                        self.check(bar, task, corners, hours)
        self.assertTrue(min(barred.values()) > 20, barred)

    def test_some(self):
        for task, corners, hours, good in ((TWO, (0, 1, 2), 2, True), (TWO, (0, 1, 2), 10 ** 9, True),
                                           (SIX, (0, 2, 4), 5, True), (ODD_TASK, (0, 1, 3), 2, True),
                                           (ODD_TASK, (0, 1, 3), 3, False), (ODD_TASK, (0, 1, 3), 6, True),
                                           (agree_task(3), (0, 1, 2), 2, False)):
            bar = bar_of(task, corners, hours)
            self.assertEqual(bar is not None, good)
            if good:
                self.check(bar, task, corners, hours)

    def test_what_is_told(self):
        bar = Bar(TWO, [0, 1, 2], [CLOCK], [[[0, 3], [1, -2]], ((0, 6), (2, 3)), ((1, 0), (2, 0))], 3)
        self.check(bar, TWO, (0, 1, 2), 3)
        self.same([bar.heights, bar.total], [RISES, 1])
        self.assertIs(bar.clocks[0], CLOCK)
        self.check(Bar(TWO, (0, 1, 2), (CLOCK,), RISES, 3), TWO, (0, 1, 2), 3)

    def test_no_plan_has_these_corners(self):
        walks = ((0, 1), (1, 2), (0, 2))
        self.assertIsNotNone(bar_of(TWO, (0, 1, 2), 2))
        for first, second, third in itertools.product(((0, 1, 1, 1), (0, 0, 0, 1), (0, 1, 0, 1)), repeat=3):
            fit = [[dict(zip((0, 1), pair))[point] for point in walk]
                   for pair, walk in zip((walks[0], walks[2], walks[1]), (first, second, third))]
            plan = ChainPlan(TWO, (0, 1, 2), fit)
            self.assertFalse(can_pull(CIRCLE, ring_of(plan, (0, 1, 2))))

    def test_least_bad_hours_have_a_bar(self):
        for seed in range(200):
            task = random_small_task(seed)
            for corners in list(corner_rows(task))[:2]:
                least = least_bad(good_pairs(task, corners))
                if least is not None:
                    self.check(bar_of(task, corners, least), task, corners, least)

    def test_no_edges(self):
        task = Task(Web.of((4,), (2,)), FULL, [FULL] * 2)
        self.assertIsNone(bar_of(task, (0, 1), 2))
        self.fails(BadPlan, {"word": "total", "cell": ()}, Bar, task, (0, 1), (), (), 2)
        line = Task(Web.of((0, 1)), line_web(2), [line_web(2)] * 3)
        self.fails(BadPlan, {"word": "total", "cell": ()}, Bar, line, (0, 2), (), [((0, 1), (1, 1), (2, 1))], 2)
        self.fails(BadPlan, {"word": "rise", "cell": (0, 1)}, Bar, line, (0, 2), (), [((0, 1), (1, 1), (2, 0))], 2)

    def test_errors_of_corners(self):
        task = agree_task(1)
        for corners in NO_ROWS + ((), (0, 1)):
            self.fails(BadPlan, {"word": "corners", "cell": ()}, Bar, task, corners, None, None, 1)
            self.fails(BadPlan, {"word": "corners", "cell": ()}, bar_of, task, corners, 1)
        for corners, cell in (((1, 1, 2), (0,)), ((0, True, 2), (1,)), ((0, 1, 2), (0, 1))):
            self.fails(BadPlan, {"word": "corners", "cell": cell}, Bar, task, corners, None, None, 1)
            self.fails(BadPlan, {"word": "corners", "cell": cell}, bar_of, task, corners, 1)

    def test_errors_of_hours(self):
        for hours in NO_LEAST:
            self.fails(BadNumber, {"word": "hours"}, Bar, TWO, (0, 1, 2), None, None, hours)
            self.fails(BadNumber, {"word": "hours"}, bar_of, TWO, (0, 1, 2), hours)

    def test_errors_of_clocks(self):
        for clocks in NO_ROWS + ((), (CLOCK, CLOCK)):
            self.fails(BadPlan, {"word": "clock", "cell": ()}, Bar, TWO, (0, 1, 2), clocks, None, 3)
        for clock in (None, (1, 0, 0), Clock(CIRCLE, (1, 0, 0), 2), Clock(CIRCLE, (1, 0, 0), 0),
                      Clock(FULL, (0, 0, 0), 3), Clock(CIRCLE | line_web(3), (1, 0, 0, 0), 3)):
            self.fails(BadPlan, {"word": "clock", "cell": (0, 1, 2)}, Bar, TWO, (0, 1, 2), [clock], None, 3)

    def test_errors_of_heights(self):
        for heights in NO_ROWS + ((), RISES[:2], RISES + ((),)):
            self.fails(BadPlan, {"word": "rise", "cell": ()}, Bar, TWO, (0, 1, 2), [CLOCK], heights, 3)
        bad = NO_ROWS + ((), RISES[2][:1], RISES[2] + ((3, 0),), RISES[2][::-1], ((1, 0), (2, 1)), ((0, 0), (2, 0)),
                         ((1, 0), None), ((1, 0), (2,)), ((1, 0), (2, 0, 0)), ((1, 0), 2), ((True, 0), (2, 0)), (1, 0))
        for row in bad + tuple(((1, 0), (2, entry)) for entry in NO_INTEGERS):
            self.fails(BadPlan, {"word": "rise", "cell": (1, 2)}, Bar, TWO, (0, 1, 2), [CLOCK], RISES[:2] + (row,), 3)
        self.fails(BadPlan, {"word": "rise", "cell": (0, 1)}, Bar, TWO, (0, 1, 2), [CLOCK], (RISES[1], None, None), 3)

    def test_errors_of_the_total(self):
        none = heights_clock(CIRCLE, (0, 0, 0), 3)
        flat = tuple(tuple((point, 2) for point, _ in row) for row in RISES)
        self.fails(BadPlan, {"word": "total", "cell": ()}, Bar, TWO, (0, 1, 2), [none], flat, 3)
        # The outer two rise against the clock.
        outer = Clock(CIRCLE, (0, 1, 0), 3)
        due = (((0, 0), (1, 0)), ((0, 0), (2, 2)), ((1, 0), (2, 0)))
        self.check(Bar(TWO, (0, 1, 2), [outer], due, 3), TWO, (0, 1, 2), 3)
        self.fails(BadPlan, {"word": "rise", "cell": (0, 2)}, Bar, TWO, (0, 1, 2), [outer],
                   (due[0], ((0, 0), (2, 1)), due[2]), 3)

    def test_parts_of_rooms(self):
        split = Web.of((0, 1), (3, 4), (4, 5), (3, 5))
        task = Task(Web.of((0, 1)), split, [split] * 3)
        self.fails(BadPlan, {"word": "rise", "cell": (0, 1)}, Bar, task, (0, 1), (),
                   [tuple((point, 0) for point in split.points)], 2)
        self.fails(BadPlan, {"word": "total", "cell": ()}, Bar, task, (0, 1), (), [((0, 5), (1, 5))], 2)

    def test_stays_when_rows_are_changed(self):
        clocks, heights, corners = [CLOCK], [[list(pair) for pair in row] for row in RISES], [0, 1, 2]
        bar = Bar(TWO, corners, clocks, heights, 3)
        heights[0][0][1] = 5
        for row in (clocks, heights, corners):
            row.clear()
        self.check(bar, TWO, (0, 1, 2), 3)


class TestBars(Case):
    def test_by_words(self):
        for seed in range(120):
            task = random_small_task(seed)
            for hours in (2, 3):
                found = list(bars(task, hours))
                self.same([corners for corners, _ in found], list(corner_rows(task)))
                for row in found:
                    self.assertIs(type(row), tuple)
                    corners, bar = row
                    self.assertEqual(bar is None, sum_plan(task, corners, hours) is not None)
                    if bar is not None:
                        self.assertEqual([bar.corners, bar.hours], [corners, hours])
        self.same(list(bars(agree_task(1), 2)), [])
        self.assertTrue(inspect.isgeneratorfunction(bars))

    def test_unlike_parts(self):
        rooms = [Web((), points=(0, 2, 6)), Web((), points=(1, 4, 6)), Web((), points=(2, 5, 6))]
        sides = [Web.of((0, 1), (2, 4), (6,)), Web.of((0, 5), (2, 6), (0, 2)), Web.of((1, 2), (4, 5), (6,))]
        task = Task(FULL, ring_web(7) | sides[0] | sides[1] | sides[2], [
            rooms[0] | sides[0] & Web((), points=()), rooms[1], rooms[2], sides[0] | rooms[0] | rooms[1],
            sides[1] | rooms[0] | rooms[2], sides[2] | rooms[1] | rooms[2], ring_web(7) | sides[0] | sides[1] | sides[2]])
        many = 0
        for corners, bar in bars(task, 3):
            many += 1
            self.assertEqual(bar is None, sum_plan(task, corners, 3) is not None)
        self.assertGreater(many, 2)

    def test_errors_come_when_the_first_is_asked(self):
        for hours in NO_LEAST:
            generator = bars(many_points(5001), hours)
            self.fails(BadNumber, {"word": "hours"}, first_of, generator)
        self.fails(TooMany, {"word": "corners"}, first_of, bars(many_points(5001), 2))
        self.same(len(list(bars(many_points(5000), 2))), 5000)


if __name__ == "__main__":
    unittest.main()
