"""Points 106 and 107: the numbers, the letter and the hours of a room, rooms of one ring."""

import itertools
import math
import random
import unittest

from helpers import Case, line_web, ring_web
from nowaittasks.clocks import Clock, heights_clock
from nowaittasks.errors import BadNumber, BadRow, NotJoined, NotOneRing
from nowaittasks.numbers import Numbers, is_one_ring
from nowaittasks.webs import Web
from test_borders import NO_HOURS
from test_clocks import all_clocks
from test_fillings import DISC
from test_rings import dense_web, random_ring
from test_sumplans import FULL, TWICE

GAP = Web.of((0, 1, 3), (1, 3, 4), (1, 2, 4), (2, 4, 5), (0, 2, 5), (0, 3, 5))


def numbers_by_words(web):
    """(letter, numbers, hours, None), or the second letter in the last place, straight from point 106."""
    root = min(web.points)
    number = {}
    for point in web.points:
        if point != root:
            near = min(y for y in web.neighbours(point) if web.steps(y, root) < web.steps(point, root))
            number[tuple(sorted((point, near)))] = 0
    letter = None
    while len(number) < len(web.edges):
        for x, y, z in web.triangles:
            missing = [edge for edge in ((x, y), (y, z), (x, z)) if edge not in number]
            if len(missing) == 1:
                if missing[0] == (x, z):
                    number[x, z] = number[x, y] + number[y, z]
                elif missing[0] == (x, y):
                    number[x, y] = number[x, z] - number[y, z]
                else:
                    number[y, z] = number[x, z] - number[x, y]
                break
        else:
            edge = min(edge for edge in web.edges if edge not in number)
            if letter is not None:
                return None, None, None, edge
            letter = edge
            number[edge] = 1
    rest = [number[x, y] + number[y, z] - number[x, z] for x, y, z in web.triangles]
    hours = 1 if letter is None else math.gcd(*rest)
    return letter, tuple(number[edge] for edge in web.edges), hours, None


def moore(times):
    """A room of the hours told: a disc glued round a ring of three points so many times."""
    outer = [10 + place for place in range(3 * times)]
    cells = []
    for place, point in enumerate(outer):
        behind = outer[(place + 1) % len(outer)]
        cells += [(point, behind, place % 3), (behind, place % 3, (place + 1) % 3), (point, behind, 9)]
    return Web(cells)


def rooms():
    """Joined rooms of all kinds."""
    found = [line_web(3), ring_web(4), ring_web(7), FULL, DISC, TWICE, GAP, Web.of((5,)), Web.of((2, 9)), moore(1), moore(2),
             moore(3), moore(5), Web.complete((0, 1, 2, 3)), Web.of((0, 1), (1, 2), (0, 2), (2, 3), (3, 4), (2, 4))]
    for seed in range(120):
        chance = random.Random(seed)
        web = dense_web(seed, chance.randint(3, 8))
        cells = [cell for cell in web.cells if chance.random() < 0.7]
        for room in (web, Web(cells, points=web.points)):
            if room.joined:
                found.append(room)
    return found


ROOMS = rooms()


class TestNumbers(Case):
    def test_by_words(self):
        kinds = {}
        for room in ROOMS:
            letter, numbers, hours, second = numbers_by_words(room)
            kinds[hours] = kinds.get(hours, 0) + 1
            self.assertIs(is_one_ring(room), second is None)
            if second is not None:
                self.fails(NotOneRing, {"edge": second}, Numbers, room)
            else:
                told = Numbers(room)
                self.assertIs(told.web, room)
                self.same([told.root, told.letter, told.hours, told.numbers],
                          [min(room.points), letter, hours, numbers])
        self.assertTrue({None, 0, 1, 2, 3, 5} <= set(kinds), kinds)
        self.assertGreater(min(kinds[None], kinds[0], kinds[1]), 15)

    def test_trees_and_one_point(self):
        for room in (Web.of((5,)), line_web(6), Web.of((3, 9), (3, 4), (4, 6))):
            told = Numbers(room)
            self.same([told.root, told.letter, told.hours, told.numbers],
                      [min(room.points), None, 1, (0,) * len(room.edges)])

    def test_order_of_triangles(self):
        # The tree joins 3 with 1, not with 2; 23 is told by its triangle.
        room = Web.of((0, 1), (0, 2), (1, 2), (1, 2, 3))
        told = Numbers(room)
        self.same([told.letter, told.numbers, told.hours], [(1, 2), (0, 0, 1, 0, -1), 0])

    def test_not_joined(self):
        for room in (Web(()), Web.of((0,), (1,)), Web.of((0, 1), (2, 3)), ring_web(4) | Web.of((9,))):
            self.fails(NotJoined, {"cell": ()}, Numbers, room)
            self.fails(NotJoined, {"cell": ()}, is_one_ring, room)

    def test_second_letter(self):
        for room, edge in ((Web.of((0, 1), (1, 2), (0, 2), (2, 3), (3, 4), (2, 4)), (3, 4)),
                           (Web.of((0, 1), (1, 2), (2, 3), (0, 3), (0, 2), (1, 3)), (1, 3))):
            self.fails(NotOneRing, {"edge": edge}, Numbers, room)

    def test_steps(self):
        told = Numbers(GAP)
        number = dict(zip(GAP.edges, told.numbers))
        for x, y in itertools.product(range(7), repeat=2):
            if x == y and x < 6:
                self.same(told.at(x, y), 0)
            elif (x, y) in GAP.edges:
                self.same([told.at(x, y), told.at(y, x)], [number[x, y], -number[x, y]])
            elif (y, x) not in GAP.edges:
                self.fails(BadRow, {"place": -1}, told.at, x, y)
        for x, y in ((True, 0), (0, None), ("0", "1"), (0, -1), (0.0, 1), ((0,), 1)):
            self.fails(BadRow, {"place": -1}, told.at, x, y)

    def test_around(self):
        chance = random.Random(3)
        for room in ROOMS:
            if is_one_ring(room) and room.edges:
                told = Numbers(room)
                for _ in range(6):
                    ring = random_ring(chance, room)
                    due = sum(told.at(ring[j], ring[(j + 1) % len(ring)]) for j in range(len(ring)))
                    self.same([told.around(ring), told.around(list(ring)), told.around(ring[::-1])], [due, due, -due])
        told = Numbers(ring_web(5))
        self.same([told.around((0, 1, 2, 3, 4)), told.around((4, 3, 2, 1, 0) * 3), told.around([2, 2, 2])],
                  [1, -3, 0])
        for ring in (None, 3, (), (0,), (0, 1), (0, 1, 2), (0, 1, 2, 3), (0, 1, 2, 3, None), "012", (0, 0, True)):
            self.fails(BadRow, {"place": -1}, told.around, ring)

    def test_clock(self):
        for times in (2, 3, 6):
            told = Numbers(moore(times))
            for hours in range(2, 14):
                if times % hours == 0:
                    clock = told.clock(hours)
                    self.assertIs(type(clock), Clock)
                    self.assertEqual(clock.web, told.web)
                    self.same([clock.hours, clock.numbers], [hours, tuple(n % hours for n in told.numbers)])
                else:
                    self.fails(BadNumber, {"word": "hours"}, told.clock, hours)
        for hours in (2, 3, 10 ** 9):
            self.same(Numbers(ring_web(4)).clock(hours).hours, hours)
        for hours in NO_HOURS + (0,):
            self.fails(BadNumber, {"word": "hours"}, Numbers(ring_web(4)).clock, hours)
        for hours in (2, 3):
            self.fails(BadNumber, {"word": "hours"}, Numbers(FULL).clock, hours)


class TestClocksOfARoom(Case):
    def test_all_clocks(self):
        for room in (ring_web(4), TWICE & Web.complete((0, 1, 2, 3)), FULL, line_web(2), Web.of((0, 1, 2), (1, 2, 3))):
            told = Numbers(room)
            for hours in (2, 3, 4):
                heights = {heights_clock(room, row, hours).numbers
                           for row in itertools.product(range(hours), repeat=len(room.points))}
                due = set()
                for factor in range(hours):
                    if (factor * told.hours) % hours == 0:
                        for row in heights:
                            due.add(tuple((factor * n + h) % hours for n, h in zip(told.numbers, row)))
                found = set(all_clocks(room, hours))
                self.assertEqual(found, due)
                self.assertEqual(len(found), math.gcd(hours, told.hours) * len(heights))

    def test_two_hours_twice_round(self):
        told = Numbers(TWICE)
        found = set(all_clocks(TWICE, 2))
        heights = {heights_clock(TWICE, row, 2).numbers for row in itertools.product(range(2), repeat=6)}
        self.assertEqual(told.hours, 2)
        self.assertEqual(len(found), 2 * len(heights))
        self.assertIn(told.clock(2).numbers, found - heights)

    def test_renamed_rooms(self):
        chance = random.Random(5)
        compared = 0
        for room in ROOMS:
            if not is_one_ring(room) or not room.edges:
                continue
            told = Numbers(room)
            names = dict(zip(room.points, chance.sample(range(20), len(room.points))))
            other = Web([[names[point] for point in cell] for cell in room.cells])
            if is_one_ring(other):
                again = Numbers(other)
                self.assertEqual(again.hours, told.hours)
                for _ in range(5):
                    ring = random_ring(chance, room)
                    due = math.gcd(told.around(ring), told.hours)
                    self.assertEqual(math.gcd(again.around([names[point] for point in ring]), told.hours), due)
                    compared += 1
        self.assertGreater(compared, 100)


if __name__ == "__main__":
    unittest.main()
