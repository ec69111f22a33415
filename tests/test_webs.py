"""Point 2: webs."""

import itertools
import random
import unittest

from helpers import NO_NUMBERS, NO_ROWS, Case, line_web, ring_web
from nowaittasks.errors import BadPoint, BadWeb
from nowaittasks.webs import Web


def all_parts(row):
    """The sets that are non-empty parts of a row."""
    return [frozenset(part) for size in (1, 2, 3) for part in itertools.combinations(sorted(set(row)), size)]


def random_web(seed):
    """The rows and points of a web, and the web."""
    chance = random.Random(seed)
    rows = [chance.sample(range(8), chance.choice((1, 2, 2, 3))) for _ in range(chance.randrange(9))]
    points = [chance.randrange(11) for _ in range(chance.randrange(3))]
    return rows, points, Web(rows, points=points)


class TestMakingWebs(Case):
    def test_cells_are_closed_and_in_the_order_of_cells(self):
        web = Web([(7, 2, 5), [9, 2]], points=[4, 11, 4])
        self.same(web.points, (2, 4, 5, 7, 9, 11))
        self.same(web.edges, ((2, 5), (2, 7), (2, 9), (5, 7)))
        self.same(web.triangles, ((2, 5, 7),))
        self.same(web.cells, ((2,), (4,), (5,), (7,), (9,), (11,), (2, 5), (2, 7), (2, 9), (5, 7), (2, 5, 7)))

    def test_greater_points_are_ordered_as_numbers(self):
        self.same(Web([(10, 9), (2, 100)]).cells, ((2,), (9,), (10,), (100,), (2, 100), (9, 10)))

    def test_random_webs_against_sets(self):
        for seed in range(60):
            rows, points, web = random_web(seed)
            due = {part for row in rows for part in all_parts(row)} | {frozenset([point]) for point in points}
            ordered = sorted([tuple(sorted(cell)) for cell in due], key=lambda cell: (len(cell), cell))
            self.same(web.cells, tuple(ordered))
            self.same(web.points, tuple(cell[0] for cell in ordered if len(cell) == 1))
            self.same(web.edges, tuple(cell for cell in ordered if len(cell) == 2))
            self.same(web.triangles, tuple(cell for cell in ordered if len(cell) == 3))
            self.assertEqual(len(web), len(ordered))
            self.same(list(web), ordered)

    def test_the_empty_web(self):
        for web in (Web(()), Web([]), Web.of(), Web.complete(()), Web([], points=[])):
            self.same((web.points, web.edges, web.triangles, web.cells), ((), (), (), ()))
            self.same((web.joined, web.thin, len(web), list(web)), (False, True, 0, []))
            self.same(web.cone_points(), ())
            self.assertTrue(web.lies_in(Web.of((0,))))

    def test_of_and_complete(self):
        self.assertEqual(Web.of((0, 1), [2]), Web([(0, 1), (2,)]))
        self.same(Web.complete([3, 1, 3]).cells, ((1,), (3,), (1, 3)))
        self.same(Web.complete((5,)).cells, ((5,),))
        for many in range(6):
            cells = [part for size in (1, 2, 3) for part in itertools.combinations(range(many), size)]
            self.same(Web.complete(tuple(range(many - 1, -1, -1))).cells, tuple(cells))

    def test_the_greatest_sizes(self):
        web = Web.complete(list(range(10 ** 6 - 60, 10 ** 6)))
        self.assertEqual((len(web.points), len(web.edges), len(web.triangles)), (60, 1770, 34220))
        self.assertEqual(len(web.cone_points()), 60)

    def test_bad_cells(self):
        for thing in NO_ROWS + (Web.of((0,)),):
            self.fails(BadWeb, {"place": -1}, Web, thing)
        for entry in NO_ROWS + ((), [], (1, 1), (0, 1, 2, 3), (0, 1, 0)):
            self.fails(BadWeb, {"place": 1}, Web, [(0, 1), entry, ()])
            self.fails(BadWeb, {"place": 0}, Web.of, entry)
        for point in NO_NUMBERS:
            self.fails(BadWeb, {"place": 2}, Web, ((0,), (1,), (5, point)))

    def test_bad_points_come_after_bad_cells(self):
        for thing in NO_ROWS:
            self.fails(BadWeb, {"place": -2}, Web, (), points=thing)
            self.fails(BadWeb, {"place": -2}, Web.complete, thing)
            self.fails(BadWeb, {"place": -1}, Web, 3, points=thing)
            self.fails(BadWeb, {"place": 0}, Web, [()], points=thing)
        for point in NO_NUMBERS:
            self.fails(BadWeb, {"place": -2}, Web, [(0, 1)], points=[3, point])
            self.fails(BadWeb, {"place": -2}, Web.complete, [3, point])

    def test_points_are_passed_by_keyword(self):
        with self.assertRaises(TypeError):
            Web((), ())

    def test_lists_that_change_later(self):
        rows, points = [[0, 1], [2, 3]], [7]
        web = Web(rows, points=points)
        rows[0][0] = 5
        rows.append([8])
        points.append(9)
        self.assertEqual(web, Web([(0, 1), (2, 3), (7,)]))
        rows, points = [[2, 1], [3, 2, 0]], [9, 7]
        Web(rows, points=points)
        Web.complete(points)
        self.assertEqual((rows, points), ([[2, 1], [3, 2, 0]], [9, 7]))


class TestAskingWebs(Case):
    def test_sits(self):
        web = Web.of((0, 1, 2), (2, 3))
        for row in ((0,), [0, 0], (1, 0), [2, 1, 0], (2, 1, 2, 0, 0, 1), [3, 2], (3, 3, 3, 3, 2)):
            self.same(web.sits(row), True)
        for row in ((), [], (4,), (0, 3), (0, 2, 3), (0, 1, 2, 3)) + NO_ROWS:
            self.same(web.sits(row), False)
        for thing in NO_NUMBERS:
            self.same(web.sits([thing]), False)
            self.same(web.sits((1, thing)), False)
        self.same(Web(()).sits(()), False)

    def test_contains(self):
        web = Web.of((0, 1, 2), (2, 3))
        for row in ((0,), [1, 0], (2, 0, 1), (3, 2)):
            self.same(row in web, True)
        for row in ((), (0, 0), [1, 0, 1], (3, 0), (4,), 0, None, "0", True, (True,), [[0]], web):
            self.same(row in web, False)

    def test_neighbours_part_steps(self):
        web = Web([(0, 1), (1, 2), (2, 3), (3, 0), (3, 4), (8, 7), (5,)])
        self.same(web.neighbours(3), (0, 2, 4))
        self.same(web.neighbours(5), ())
        self.same(web.part(4), (0, 1, 2, 3, 4))
        self.same(web.part(8), (7, 8))
        self.same(web.part(5), (5,))
        self.same([web.steps(0, other) for other in (0, 1, 2, 3, 4, 5, 7)], [0, 1, 2, 1, 2, None, None])
        self.same(web.steps(5, 5), 0)

    def test_steps_are_those_of_all_webs(self):
        for seed in range(40):
            web = random_web(seed)[2]
            far = {(one, other): 0 if one == other else 99 for one in web.points for other in web.points}
            far.update({pair: 1 for edge in web.edges for pair in (edge, edge[::-1])})
            for middle, one, other in itertools.product(web.points, repeat=3):
                far[one, other] = min(far[one, other], far[one, middle] + far[middle, other])
            for (one, other), steps in far.items():
                self.same(web.steps(one, other), None if steps >= 99 else steps)
            for one in web.points:
                self.same(web.part(one), tuple(other for other in web.points if far[one, other] < 99))
                self.same(web.neighbours(one), tuple(other for other in web.points if far[one, other] == 1))
            self.same(web.joined, len(web) > 0 and all(steps < 99 for steps in far.values()))
            self.same(web.thin, web.triangles == ())

    def test_steps_along_lines_and_rings(self):
        self.same(line_web(59).steps(59, 0), 59)
        self.same([ring_web(9).steps(2, other) for other in range(9)], [2, 1, 0, 1, 2, 3, 4, 4, 3])

    def test_what_is_no_point(self):
        web = Web.of((0, 1))
        for thing in NO_NUMBERS + (2,):
            self.fails(BadPoint, {"point": thing}, web.neighbours, thing)
            self.fails(BadPoint, {"point": thing}, web.part, thing)
            self.fails(BadPoint, {"point": thing}, web.steps, thing, 7)
            self.fails(BadPoint, {"point": thing}, web.steps, 0, thing)
        self.fails(BadPoint, {"point": 0}, Web(()).part, 0)

    def test_joined_and_thin(self):
        self.same([web.joined for web in (Web.of((4,)), Web.of((0, 1)), Web.of((0, 1), (2,)))], [True, True, False])
        self.same([web.thin for web in (ring_web(4), Web.of((0, 1, 2)))], [True, False])
        self.same(Web.of((0, 1), (2, 3)).joined, False)
        self.same(Web.of((0, 3), (1, 2), (2, 3)).joined, True)

    def test_lies_in(self):
        web = Web.of((0, 1, 2))
        self.same(Web.of((0, 1), (1, 2), (0, 2)).lies_in(web), True)
        self.same(web.lies_in(Web.of((0, 1), (1, 2), (0, 2))), False)
        self.same(web.lies_in(web), True)
        self.same(web.lies_in(Web(())), False)
        self.same(Web.of((3,)).lies_in(web), False)

    def test_cone_points(self):
        self.same(Web.of((6,)).cone_points(), (6,))
        self.same(Web.of((0, 1)).cone_points(), (0, 1))
        self.same(Web.of((0, 1), (1, 2)).cone_points(), (1,))
        self.same(Web.of((0, 1), (1, 2), (0, 2)).cone_points(), ())
        self.same(Web.of((0, 1), (2,)).cone_points(), ())
        self.same(Web.of((0, 1, 2), (1, 2, 3)).cone_points(), (1, 2))
        self.same(Web.of((0, 1, 2), (1, 2, 3), (3, 4)).cone_points(), ())
        # A cone at 0 over a ring: the triangles over 0 are there.
        self.same(Web.of((0, 1, 2), (0, 2, 3), (0, 3, 4), (0, 1, 4)).cone_points(), (0,))
        # All four triangles of four points: each point sees the triangle across, too.
        self.same(Web.complete((0, 1, 2, 3)).cone_points(), (0, 1, 2, 3))
        # All edges at 0, but the triangle 0 2 3 lacks.
        self.same(Web.of((0, 1, 2), (0, 3), (2, 3)).cone_points(), ())


class TestWebSigns(Case):
    def test_and_or(self):
        for seed in range(0, 60, 2):
            one, other = random_web(seed)[2], random_web(seed + 1)[2]
            both = set(one.cells) & set(other.cells)
            either = set(one.cells) | set(other.cells)
            self.same((one & other).cells, tuple(sorted(both, key=lambda cell: (len(cell), cell))))
            self.same((one | other).cells, tuple(sorted(either, key=lambda cell: (len(cell), cell))))

    def test_and_or_make_webs_and_change_none(self):
        one, other = Web.of((0, 1, 2)), Web.of((1, 2), (2, 3))
        self.assertEqual(one & other, Web.of((1, 2)))
        self.assertEqual(one | other, Web.of((0, 1, 2), (2, 3)))
        self.assertEqual((one & other).neighbours(1), (2,))
        self.assertEqual((one | other).part(3), (0, 1, 2, 3))
        self.assertEqual((one, other), (Web.of((0, 1, 2)), Web.of((1, 2), (2, 3))))
        with self.assertRaises(TypeError):
            one & ((1,),)
        with self.assertRaises(TypeError):
            one | [(1,)]

    def test_equal(self):
        self.same(Web.of((0, 1)) == Web([[1, 0], (0,)], points=[1]), True)
        self.same(Web.of((0, 1)) != Web.of((1, 0)), False)
        self.same(Web.of((0, 1)) == Web.of((0,), (1,)), False)
        for thing in (((0,), (1,), (0, 1)), [(0,), (1,), (0, 1)], None, 3, "web"):
            self.same(Web.of((0, 1)) == thing, False)
            self.same(Web.of((0, 1)) != thing, True)

    def test_len_and_iteration(self):
        web = Web.of((2, 0, 1))
        self.same(len(web), 7)
        self.same([cell for cell in web], [(0,), (1,), (2,), (0, 1), (0, 2), (1, 2), (0, 1, 2)])
        self.same(list(web), list(web))


if __name__ == "__main__":
    unittest.main()
