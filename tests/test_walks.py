"""Point 31: walks."""

import itertools
import random
import unittest

from helpers import NO_NUMBERS, NO_ROWS, Case, line_web, ring_web
from nowaittasks.errors import BadNumber, BadPoint
from nowaittasks.walks import is_walk, stretched, walk_between, walk_part
from nowaittasks.webs import Web


def random_graph(seed):
    """A web of few points, not always joined."""
    chance = random.Random(seed)
    points = chance.sample(range(12), 6)
    edges = [pair for pair in itertools.combinations(points, 2) if chance.random() < 0.4]
    return Web(edges, points=points)


class TestIsWalk(Case):
    def test_walks(self):
        web = Web.of((0, 1, 2), (2, 3), (5,))
        for row in ((0,), [5], (5, 5), [0, 1, 2, 0], (3, 2, 2, 3), (0, 0, 0)):
            self.same(is_walk(web, row), True)
        for row in ((), [], (4,), (0, 3), (0, 4), (5, 0), (0, 1, 3), (0, True), (False,), (0, -1), ((0, 1),)) + NO_ROWS:
            self.same(is_walk(web, row), False)

    def test_all_rows(self):
        web = random_graph(3)
        for row in itertools.product(range(12), repeat=3):
            steps = all(one == other or (one, other) in web for one, other in zip(row, row[1:]))
            self.same(is_walk(web, row), steps and row[0] in web.points)

    def test_no_walk_in_the_empty_web(self):
        self.same(is_walk(Web(()), ()), False)
        self.same(is_walk(Web(()), (0,)), False)


class TestWalkBetween(Case):
    def test_the_least_of_the_shortest(self):
        for seed in range(30):
            web = random_graph(seed)
            for one, other in itertools.product(web.points, repeat=2):
                steps = web.steps(one, other)
                if steps is None:
                    self.assertIsNone(walk_between(web, one, other))
                    continue
                inner = itertools.product(web.points, repeat=max(0, steps - 1))
                rows = [(one,) if steps == 0 else (one,) + row + (other,) for row in inner]
                self.same(walk_between(web, one, other), min(row for row in rows if is_walk(web, row)))

    def test_some_walks(self):
        self.same(walk_between(line_web(4), 4, 1), (4, 3, 2, 1))
        self.same(walk_between(ring_web(6), 0, 3), (0, 1, 2, 3))
        self.same(walk_between(ring_web(6), 3, 0), (3, 2, 1, 0))
        self.same(walk_between(ring_web(4), 1, 3), (1, 0, 3))
        self.same(walk_between(line_web(4), 2, 2), (2,))
        # The walk that begins less is not the one that goes through less points in all.
        web = Web.of((0, 1), (0, 2), (1, 9), (2, 3), (9, 8), (3, 8))
        self.same(walk_between(web, 0, 8), (0, 1, 9, 8))

    def test_points(self):
        web = line_web(2)
        for thing in NO_NUMBERS + (5,):
            self.fails(BadPoint, {"point": thing}, walk_between, web, thing, 7)
            self.fails(BadPoint, {"point": thing}, walk_between, web, 0, thing)
            self.fails(BadPoint, {"point": thing}, walk_part, web, thing)


class TestStretched(Case):
    def test_the_last_point_repeats(self):
        self.same(stretched((0, 1, 2), 2), (0, 1, 2))
        self.same(stretched([0, 1, 2], 5), (0, 1, 2, 2, 2, 2))
        self.same(stretched([7], 0), (7,))
        self.same(stretched((7,), 3), (7, 7, 7, 7))

    def test_errors(self):
        for thing in NO_NUMBERS:
            self.fails(BadNumber, {"word": "many"}, stretched, (0,), thing)
        for many in (0, 1, -1):
            self.fails(BadNumber, {"word": "many"}, stretched, (0, 1, 2), many)

    def test_a_list_stays(self):
        walk = [0, 1]
        stretched(walk, 4)
        self.assertEqual(walk, [0, 1])


class TestWalkPart(Case):
    def test_all_cells_of_the_part(self):
        web = Web.of((0, 1, 2), (2, 3), (4, 5), (5, 6, 7), (8,))
        self.assertEqual(walk_part(web, 3), Web.of((0, 1, 2), (2, 3)))
        self.assertEqual(walk_part(web, 6), Web.of((4, 5), (5, 6, 7)))
        self.assertEqual(walk_part(web, 8), Web.of((8,)))

    def test_random_parts(self):
        for seed in range(20):
            web = random_graph(seed)
            for point in web.points:
                due = [cell for cell in web.cells if set(cell) <= set(web.part(point))]
                self.same(walk_part(web, point).cells, tuple(due))


if __name__ == "__main__":
    unittest.main()
