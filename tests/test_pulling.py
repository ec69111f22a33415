"""Points 93, 94 and 108: rings pulled together in rooms of one ring, or a clock against them."""

import math
import random
import unittest
from unittest import mock

from helpers import NO_ROWS, Case, line_web, ring_web
from nowaittasks import pullers
from nowaittasks.clocks import Clock
from nowaittasks.errors import BadRow, NotJoined, NotOneRing, TooMany
from nowaittasks.fillings import filling_fault, rings_of
from nowaittasks.numbers import Numbers, is_one_ring
from nowaittasks.pulling import can_pull, clock_against, pull
from nowaittasks.rings import coned_at, layer_fault, moved
from nowaittasks.sumplans import sum_plan
from nowaittasks.webs import Web
from test_fillings import DISC
from test_numbers import GAP, ROOMS, moore
from test_rings import dense_web, random_ring
from test_sumplans import FULL, TWICE, side_task

CALLS = (can_pull, pull, clock_against)
TWO_RINGS = Web.of((0, 1), (1, 2), (0, 2), (2, 3), (3, 4), (2, 4))


def loop_cells(hours, turns):
    """(triangles, ring) of the room of these hours with these turns, straight from point 131."""
    cells, outer = [], [3 + place for place in range(3 * turns)]
    for place, point in enumerate(outer):
        behind = outer[(place + 1) % len(outer)]
        cells += [(point, behind, place % 3), (behind, place % 3, (place + 1) % 3)]
    further = [3 + 3 * turns + place for place in range(3 * hours)]
    for place, point in enumerate(further):
        behind = further[(place + 1) % len(further)]
        cells += [(point, behind, place % 3), (behind, place % 3, (place + 1) % 3)]
        cells.append((point, behind, 3 + 3 * turns + 3 * hours))
    return cells, tuple(outer)


def least_not_into(number):
    """The least integer of at least 2 that does not go into a number other than 0."""
    found = 2
    while number % found == 0:
        found += 1
    return found


class TestPulling(Case):
    def check(self, room, ring):
        """All three calls tell what point 108 says of this ring."""
        told = Numbers(room)
        around = told.around(ring)
        good = math.gcd(around, told.hours) == told.hours
        self.assertIs(can_pull(room, ring), good)
        layers, clock = pull(room, ring), clock_against(room, ring)
        if good:
            self.assertIsNone(clock)
            self.assertIsNone(filling_fault(room, ring, layers))
            self.assertIs(type(layers), tuple)
            for layer in layers:
                self.assertEqual([type(layer), len(layer)], [tuple, 1])
                self.same(layer[0], tuple(layer[0]))
            if coned_at(room, ring) is not None:
                self.same(layers, ())
        else:
            self.assertIsNone(layers)
            self.assertIs(type(clock), Clock)
            due = told.hours if told.hours else least_not_into(around)
            self.assertEqual(clock.web, room)
            self.same([clock.hours, clock.numbers], [due, tuple(number % due for number in told.numbers)])
            self.assertNotEqual(clock.around(ring), 0)
        return good

    def test_random_rings(self):
        chance = random.Random(11)
        seen = {}
        for room in ROOMS:
            if is_one_ring(room) and room.edges:
                for _ in range(4):
                    ring = random_ring(chance, room)
                    found = (Numbers(room).hours, self.check(room, ring))
                    seen[found] = seen.get(found, 0) + 1
        for due in ((0, True), (0, False), (1, True), (2, True), (2, False), (3, False)):
            self.assertIn(due, seen)
        self.assertNotIn((1, False), seen)

    def test_no_clock_bars_what_is_pulled(self):
        # Straight from point 94: no clock of any hours tells anything but 0 round it.
        chance = random.Random(12)
        for room in (TWICE, moore(3), FULL, ring_web(5)):
            told = Numbers(room)
            for _ in range(30):
                ring = random_ring(chance, room)
                sums = [told.clock(hours).around(ring) for hours in range(2, 13) if told.hours % hours == 0]
                if can_pull(room, ring):
                    self.assertEqual(sums, [0] * len(sums))
                elif told.hours:
                    self.assertTrue(any(sums))

    def test_layers_keep_the_sum(self):
        chance = random.Random(13)
        kept = 0
        for room in (TWICE, moore(2), moore(3), GAP, ring_web(4)):
            told = Numbers(room)
            for _ in range(40):
                ring = random_ring(chance, room)
                place, point = chance.randrange(len(ring)), chance.choice(room.points)
                layer = (chance.choice((("change", place, point), ("insert", place, point))),)
                if layer_fault(room, ring, layer) is None:
                    kept += 1
                    again = moved(ring, layer)
                    self.assertEqual(math.gcd(told.around(again) - told.around(ring), told.hours), told.hours)
                    self.assertEqual(can_pull(room, again), can_pull(room, ring))
        self.assertGreater(kept, 40)

    def test_loop_rooms(self):
        for hours in range(4):
            for turns in range(1, 4):
                cells, ring = loop_cells(hours, turns)
                room = Web(cells)
                self.same(Numbers(room).hours, hours)
                good = self.check(room, ring)
                self.assertEqual(good, math.gcd(turns, hours) == hours)
                for many in (1, 2, 3):
                    self.check(room, ring * many)
                    self.check(room, ring[::-1] * many)

    def test_coned_rings(self):
        for room, ring in ((FULL, (0, 1, 2)), (GAP, (0, 0, 0)), (line_web(4), (2, 3, 2)), (DISC, (DISC.points[0],) * 4),
                           (Web.of((5,)), (5, 5, 5)), (ring_web(6), (0, 0, 1, 0))):
            self.same(pull(room, ring), ())
            self.assertIs(can_pull(room, ring), True)
            self.assertIsNone(clock_against(room, list(ring)))

    def test_thin_rooms(self):
        # Rings of at most 50 places in a thin room are never too many.
        chance = random.Random(14)
        pulled = 0
        line = line_web(25)
        self.check(line, tuple(range(25)) + tuple(range(25, 0, -1)))
        for room in (ring_web(4), ring_web(5), line_web(9), Web.of((0, 1), (0, 2), (0, 3), (3, 4), (4, 5)),
                     Web.of((0, 1), (1, 2), (0, 2), (2, 3))):
            for _ in range(25):
                walk = [chance.choice(room.points)]
                while len(walk) < 25:
                    walk.append(chance.choice(room.neighbours(walk[-1]) + (walk[-1],)))
                back = walk[::-1]
                ring = tuple(walk + back)
                self.assertEqual(len(ring), 50)
                self.assertTrue(self.check(room, ring))
                pulled += 1
        for many in (4, 5, 7):
            room = ring_web(many)
            ring = tuple(range(many)) * (24 // many)
            self.assertFalse(self.check(room, ring))
            self.assertTrue(self.check(room, ring + ring[:1] + ring[:0:-1]))
        self.assertGreater(pulled, 100)

    def test_tuples_and_lists(self):
        ring = [0, 1, 2, 3, 4, 5] * 2
        room = Web(loop_cells(2, 2)[0])
        outer = loop_cells(2, 2)[1]
        self.same(pull(room, list(outer)), pull(room, outer))
        self.same(list(outer), [3, 4, 5, 6, 7, 8])
        self.assertIs(can_pull(ring_web(6), ring), False)
        self.same(clock_against(ring_web(6), ring).hours, 3)
        self.same(ring, [0, 1, 2, 3, 4, 5] * 2)

    def test_hours_of_the_clock_against(self):
        for turns, hours in ((1, 2), (2, 3), (3, 2), (6, 4), (12, 5), (60, 7)):
            self.same(clock_against(ring_web(4), (0, 1, 2, 3) * turns).hours, hours)
            self.same(clock_against(ring_web(4), (3, 2, 1, 0) * turns).hours, hours)
        for times in (2, 3, 6):
            self.same(clock_against(moore(times), (0, 1, 2)).hours, times)

    def test_the_rings_of_many_turns(self):
        room = moore(5)
        for turns in (5, 10, 20):
            layers = pull(room, (0, 1, 2) * turns)
            self.assertIsNone(filling_fault(room, (0, 1, 2) * turns, layers))
            self.assertTrue(len(layers) <= 3000)
        self.assertIsNone(pull(room, (0, 1, 2) * 12))

    def test_too_many_moves(self):
        # A line walked to its end and back so often that no filling of 3000 moves is told.
        line = line_web(50)
        there = tuple(range(51)) + tuple(range(49, 0, -1))
        self.assertIsNone(filling_fault(line, there, pull(line, there)))
        self.fails(TooMany, {"word": "moves"}, pull, line, there * 12)
        self.assertIs(can_pull(line, there * 12), True)
        self.assertIsNone(clock_against(line, there * 12))
        # A ring that cannot be pulled together is told so, long as it is.
        self.assertIsNone(pull(ring_web(50), tuple(range(50)) * 100))

    def test_at_the_limit_and_just_above(self):
        cells, ring = loop_cells(3, 3)
        room = Web(cells)
        layers = pull(room, ring)
        self.assertEqual(pullers.MOST_MOVES, 3000)
        with mock.patch.object(pullers, "MOST_MOVES", len(layers)):
            self.same(pull(room, ring), layers)
        with mock.patch.object(pullers, "MOST_MOVES", len(layers) - 1):
            self.fails(TooMany, {"word": "moves"}, pull, room, ring)
        cells, ring = loop_cells(3, 2)
        with mock.patch.object(pullers, "MOST_MOVES", 0):
            self.assertIsNone(pull(Web(cells), ring))
        with mock.patch.object(pullers, "MOST_MOVES", 0):
            self.same(pull(FULL, (0, 1, 2)), ())

    def test_rings_behind_each_move(self):
        cells, ring = loop_cells(1, 1)
        room = Web(cells)
        layers = pull(room, ring)
        rings = rings_of(ring, layers)
        self.assertIsNotNone(coned_at(room, rings[-1]))
        for row in rings:
            self.assertEqual(Numbers(room).around(row) % 1, 0)
            self.assertIs(can_pull(room, row), True)

    def test_errors_of_rooms(self):
        for call in CALLS:
            for room in (Web(()), Web.of((0,), (1,)), Web.of((0, 1, 2), (3, 4))):
                self.fails(NotJoined, {"cell": ()}, call, room, None)
            self.fails(NotOneRing, {"edge": (3, 4)}, call, TWO_RINGS, None)
            self.fails(NotOneRing, {"edge": (3, 4)}, call, TWO_RINGS, (0, 1, 2))

    def test_errors_of_rings(self):
        for call in CALLS:
            for ring in NO_ROWS + ((), (0,), (0, 1), (0, 1, 2), (0, 1, 2, 3, None), (0, 0, True), (0, 1, 9), (0, [0], 0)):
                self.fails(BadRow, {"place": -1}, call, ring_web(5), ring)


class TestSheets(Case):
    def test_sheets_and_whole_numbers(self):
        # Point 108: a sheet mod m exists exactly if gcd(m, k) goes into e of the ring.
        compared = 0
        barred = 0
        for seed in range(150):
            chance = random.Random(seed)
            room = chance.choice([TWICE, GAP, FULL, ring_web(5), moore(2), moore(3), dense_web(seed, 6)])
            if not room.joined or not is_one_ring(room):
                continue
            told = Numbers(room)
            first = free_walk(chance, room, chance.choice(room.points))
            second = free_walk(chance, room, first[-1])
            sides = (first, second, tuple(walk_home(room, first[:1] + second[-1:])))
            if min(len(side) for side in sides) < 2:
                continue
            task = side_task(sides, room)
            ring = sides[0][:-1] + sides[1][:-1] + sides[2][:0:-1]
            around = told.around(ring)
            corners = (first[0], second[0], second[-1])
            barred += not can_pull(room, ring)
            for hours in (0, 2, 3, 4, 6):
                found = sum_plan(task, corners, hours)
                due = math.gcd(around, math.gcd(hours, told.hours)) == math.gcd(hours, told.hours)
                self.assertEqual(found is not None, due)
                compared += 1
            self.assertEqual(sum_plan(task, corners, 0) is not None, can_pull(room, ring))
        self.assertGreater(compared, 200)
        self.assertGreater(barred, 5)

    def test_cliques_of_a_helly_graph(self):
        # Each ring of the cliques of a Helly graph can be pulled together.
        grid = [(x, y) for x in range(3) for y in range(3)]
        cells = []
        for place, (x, y) in enumerate(grid):
            for other, (z, w) in enumerate(grid):
                for third, (s, t) in enumerate(grid):
                    near = max(abs(x - z), abs(y - w), abs(x - s), abs(y - t), abs(z - s), abs(w - t)) <= 1
                    if place < other < third and near:
                        cells.append((place, other, third))
        room = Web(cells)
        self.same(Numbers(room).hours, 1)
        chance = random.Random(17)
        for _ in range(30):
            ring = random_ring(chance, room)
            self.assertIs(can_pull(room, ring), True)
            self.assertIsNone(filling_fault(room, ring, pull(room, ring)))


def free_walk(chance, room, point):
    """A walk from a point that has no point twice."""
    found = [point]
    for _ in range(chance.randint(1, 4)):
        found += [chance.choice(room.neighbours(found[-1]))] if room.neighbours(found[-1]) else []
        if found.index(found[-1]) < len(found) - 1:
            return tuple(found[:-1])
    return tuple(found)


def walk_home(room, walk):
    """A shortest walk from the first point of a walk to its last one."""
    found = [walk[-1]]
    while found[-1] != walk[0]:
        found.append(min(room.neighbours(found[-1]), key=lambda point: (room.steps(point, walk[0]), point)))
    return found[::-1]


if __name__ == "__main__":
    unittest.main()
