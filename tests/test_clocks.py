"""Points 93 and 94: clocks, sums along walks and round rings, heights."""

import itertools
import random
import unittest

from helpers import NO_ROWS, Case, line_web, ring_web
from nowaittasks.clocks import Clock, heights_clock
from nowaittasks.errors import BadNumber, BadPlan, BadRow
from nowaittasks.fillings import filling_fault, rings_of
from nowaittasks.rings import coned_at, layer_fault, moved
from nowaittasks.webs import Web
from test_borders import NO_HOURS
from test_fillings import BY_CHANGES, BY_INSERTS, CIRCLE, DISC
from test_rings import all_moves, dense_web, fits_by_words, random_layer, random_ring

HOURS = (0, 2, 3, 12, 10 ** 9)
NO_INTEGERS = (True, None, "1", 1.0, (1,), [1])
# Two triangles round a gap with the points 0, 1, 2: clocks that no heights tell.
GAP = Web.of((0, 1, 3), (1, 2, 4), (0, 2))


def all_clocks(web, hours):
    """All rows of numbers mod some hours that add up at each triangle."""
    found = []
    for numbers in itertools.product(range(hours), repeat=len(web.edges)):
        at = dict(zip(web.edges, numbers))
        if all((at[x, y] + at[y, z] - at[x, z]) % hours == 0 for x, y, z in web.triangles):
            found.append(numbers)
    return found


def sum_by_words(clock_numbers, web, walk, hours):
    """The sum along a walk."""
    at = dict(zip(web.edges, clock_numbers))
    total = 0
    for x, y in zip(walk, walk[1:]):
        total += 0 if x == y else at[x, y] if x < y else -at[y, x]
    return total % hours if hours else total


def random_clock(chance, web, hours):
    """Numbers of heights, and on webs without triangles any numbers."""
    if web.thin:
        return [chance.randrange(-20, 20) for _ in web.edges]
    height = {point: chance.randrange(-20, 20) for point in web.points}
    return [height[y] - height[x] + hours * chance.randrange(-1, 2) for x, y in web.edges]


class TestClock(Case):
    def test_attributes(self):
        clock = Clock(line_web(3), [1, -5, 0], 0)
        self.assertEqual(clock.web, line_web(3))
        self.same([clock.hours, clock.numbers], [0, (1, -5, 0)])
        other = Clock(line_web(3), (1, -5, 10 ** 12), 4)
        self.same([other.hours, other.numbers], [4, (1, 3, 0)])
        self.same([Clock(Web(()), (), 2).numbers, Clock(Web.of((3,)), [], 0).hours], [(), 0])

    def test_triangles_by_words(self):
        for hours in (2, 3):
            good = all_clocks(GAP, hours) if hours == 2 else all_clocks(Web.of((0, 1, 3), (0, 2)), hours)
            web = GAP if hours == 2 else Web.of((0, 1, 3), (0, 2))
            for numbers in itertools.product(range(hours), repeat=len(web.edges)):
                if numbers in good:
                    self.same(Clock(web, numbers, hours).numbers, numbers)
                else:
                    at = dict(zip(web.edges, numbers))
                    first = [(x, y, z) for x, y, z in web.triangles if (at[x, y] + at[y, z] - at[x, z]) % hours][0]
                    self.fails(BadPlan, {"word": "clock", "cell": first}, Clock, web, numbers, hours)

    def test_whole_numbers_and_hours(self):
        triangle = Web.of((0, 1, 2))
        self.fails(BadPlan, {"word": "clock", "cell": (0, 1, 2)}, Clock, triangle, (1, 0, 1), 0)
        self.same([Clock(triangle, (1, 0, 1), 2).numbers, Clock(triangle, (-1, 5, 6), 0).numbers], [(1, 0, 1), (-1, 5, 6)])
        # The edges in their order are 01, 02, 12.
        self.same(Clock(triangle, (6, 4, 5), 7).numbers, (6, 4, 5))

    def test_steps_and_sums_by_words(self):
        for seed in range(80):
            chance = random.Random(seed)
            web = chance.choice((dense_web(seed % 9), line_web(5), ring_web(6)))
            for hours in HOURS:
                numbers = random_clock(chance, web, hours)
                clock = Clock(web, numbers, hours)
                for x, y in itertools.product(web.points, repeat=2):
                    if web.sits((x, y)):
                        self.same(clock.at(x, y), sum_by_words(numbers, web, (x, y), hours))
                ring = random_ring(chance, web)
                self.same([clock.around(ring), clock.around(list(ring))],
                          [sum_by_words(numbers, web, ring + ring[:1], hours)] * 2)
                for walk in (ring, ring[:1], ring[::-1] + ring[1:], list(ring)):
                    self.same(clock(walk), sum_by_words(numbers, web, walk, hours))

    def test_examples(self):
        clock = Clock(ring_web(4), (1, 0, 2, 5), 7)
        self.same([clock.at(0, 1), clock.at(1, 0), clock.at(3, 3), clock.at(3, 0), clock.at(3, 2)], [1, 6, 0, 0, 2])
        self.same([clock((0, 1, 2, 3)), clock((3, 2, 1, 0)), clock((2,)), clock((0, 1, 0, 3, 2, 2))], [1, 6, 0, 2])
        self.same([clock.around((0, 1, 2, 3)), clock.around((3, 2, 1, 0)), clock.around((0, 1, 0))], [1, 6, 0])
        whole = Clock(ring_web(4), (1, 0, 2, 5), 0)
        self.same([whole.at(1, 0), whole((3, 2, 1, 0)), whole.around((0, 1, 2, 3)), whole.around((3, 2, 1, 0))],
                  [-1, -8, 8, -8])

    def test_no_steps_walks_and_rings(self):
        clock = Clock(line_web(3), (1, 2, 3), 5)
        for one, other in ((0, 2), (0, 4), (4, 4), (-1, 0), (True, 1), (0, None), ("0", 1), ([0], 1), (1.0, 1)):
            self.fails(BadRow, {"place": -1}, clock.at, one, other)
            self.fails(BadRow, {"place": -1}, clock.at, other, one)
        for row in NO_ROWS + ((), (4,), (0, 2), (0, 1, 3), (0, -1), (True,), (0, None)):
            self.fails(BadRow, {"place": -1}, clock, row)
            self.fails(BadRow, {"place": -1}, clock.around, row)
        for row in ((0,), (0, 1), (0, 1, 2), (0, 1, 2, 3)):
            self.fails(BadRow, {"place": -1}, clock.around, row)

    def test_scaled(self):
        clock = Clock(ring_web(4), (1, 0, 2, 5), 6)
        for factor in (0, 1, 2, -1, 7, 10 ** 12):
            self.same(clock.scaled(factor).numbers, tuple(factor * number % 6 for number in (1, 0, 2, 5)))
        self.same([clock.scaled(3).hours, clock.numbers], [6, (1, 0, 2, 5)])
        self.assertEqual(clock.scaled(3).web, ring_web(4))
        self.same(Clock(line_web(2), (1, -4), 0).scaled(-3).numbers, (-3, 12))

    def test_sum_of_clocks(self):
        one, other = Clock(ring_web(4), (1, 0, 2, 5), 6), Clock(ring_web(4), (5, 3, 3, 4), 6)
        both = one + other
        self.assertIs(type(both), Clock)
        self.same([both.hours, both.numbers, one.numbers, other.numbers], [6, (0, 3, 5, 3), (1, 0, 2, 5), (5, 3, 3, 4)])
        self.assertEqual(both.web, ring_web(4))
        self.same((one + one.scaled(-1)).numbers, (0, 0, 0, 0))
        self.same((Clock(line_web(1), (3,), 0) + Clock(line_web(1), (-9,), 0)).numbers, (-6,))
        self.fails(BadNumber, {"word": "hours"}, lambda: one + Clock(line_web(1), (3,), 0))
        self.fails(BadNumber, {"word": "hours"}, lambda: one + Clock(ring_web(4), (1, 0, 2, 5), 3))
        self.fails(BadRow, {"place": -1}, lambda: one + Clock(line_web(1), (3,), 6))
        self.fails(BadRow, {"place": -1}, lambda: one + Clock(line_web(4), (1, 0, 2, 5), 6))
        self.fails(BadRow, {"place": -1}, lambda: one + Clock(ring_web(4) | Web.of((4,)), (1, 0, 2, 5), 6))
        gap = Web.of((0, 1), (1, 2), (0, 2))
        self.fails(BadRow, {"place": -1}, lambda: Clock(gap, (1, 3, 2), 0) + Clock(Web.of((0, 1, 2)), (1, 3, 2), 0))
        for thing in (None, 0, 3, one.numbers):
            with self.assertRaises(TypeError):
                one + thing

    def test_numbers_that_change_later(self):
        numbers = [1, 2]
        clock = Clock(line_web(2), numbers, 0)
        numbers[0] = 9
        self.same([clock.numbers, clock.at(0, 1)], [(1, 2), 1])

    def test_errors_in_order(self):
        web = Web.of((0, 1, 2), (1, 2, 3))
        for numbers in NO_ROWS + ((), (1,) * 4, (1,) * 6, "12345"):
            self.fails(BadRow, {"place": -1}, Clock, web, numbers, 1)
        for entry in NO_INTEGERS:
            self.fails(BadRow, {"place": 0}, Clock, web, [entry] * 5, 1)
            self.fails(BadRow, {"place": 4}, Clock, web, (0, 1, 2, 3, entry), 1)
        for hours in NO_HOURS:
            self.fails(BadNumber, {"word": "hours"}, Clock, web, (1, 1, 1, 1, 1), hours)
        self.fails(BadPlan, {"word": "clock", "cell": (0, 1, 2)}, Clock, web, (1, 1, 1, 1, 1), 0)
        self.fails(BadPlan, {"word": "clock", "cell": (1, 2, 3)}, Clock, web, (1, 2, 1, 1, 1), 0)
        self.same(Clock(web, (1, 2, 1, 2, 1), 0).numbers, (1, 2, 1, 2, 1))


class TestHeights(Case):
    def test_by_words(self):
        for seed in range(60):
            chance = random.Random(seed)
            web = dense_web(seed % 12)
            heights = [chance.choice((0, 1, -1, 5, -9, 10 ** 12)) for _ in web.points]
            height = dict(zip(web.points, heights))
            for hours in HOURS:
                clock = heights_clock(web, heights, hours)
                self.assertIs(type(clock), Clock)
                due = [height[y] - height[x] for x, y in web.edges]
                self.same(clock.numbers, tuple(number % hours if hours else number for number in due))
                self.same(clock.hours, hours)
                self.assertEqual(clock.web, web)
                ring = random_ring(chance, web)
                rise = height[ring[-1]] - height[ring[0]]
                self.same([clock(ring), clock.around(ring)], [rise % hours if hours else rise, 0])

    def test_points_with_gaps(self):
        self.same(heights_clock(Web.of((2, 9), (9, 30)), [4, 1, 8], 0).numbers, (-3, 7))
        self.same(heights_clock(Web.of((5,)), (4,), 2).numbers, ())

    def test_errors_in_order(self):
        web = Web.of((2, 9), (9, 30))
        for heights in NO_ROWS + ((), (1, 2), (1, 2, 3, 4), "123"):
            self.fails(BadRow, {"place": -1}, heights_clock, web, heights, 1)
        for entry in NO_INTEGERS:
            self.fails(BadRow, {"place": 1}, heights_clock, web, (0, entry, None), 1)
        for hours in NO_HOURS:
            self.fails(BadNumber, {"word": "hours"}, heights_clock, web, (0, -1, 2), hours)


class TestMovesKeepSums(Case):
    def test_layers_that_fit(self):
        kept = 0
        for seed in range(60):
            chance = random.Random(seed)
            web = chance.choice((GAP, dense_web(seed % 9, 5)))
            hours = 2 if len(web.edges) > 7 else 3
            clocks = [Clock(web, numbers, hours) for numbers in all_clocks(web, hours)[::7]]
            ring = random_ring(chance, web)
            good = [move for move in all_moves(ring, web.points) if fits_by_words(web, ring, move)]
            layer = random_layer(chance, ring, good)
            self.assertIsNone(layer_fault(web, ring, layer))
            behind = moved(ring, layer)
            for clock in clocks:
                self.same(clock.around(behind), clock.around(ring))
                kept += clock.around(ring) != 0
                if coned_at(web, ring) is not None:
                    self.same(clock.around(ring), 0)
        self.assertGreater(kept, 50)

    def test_rings_that_are_pulled_together(self):
        for filling in (BY_CHANGES, BY_INSERTS):
            self.assertIsNone(filling_fault(DISC, CIRCLE, filling))
            clock = heights_clock(DISC, (3, 1, 4, 1, 5, 9, 2, 6, 5), 0)
            self.same([clock.around(ring) for ring in rings_of(CIRCLE, filling)], [0] * (len(filling) + 1))


if __name__ == "__main__":
    unittest.main()
