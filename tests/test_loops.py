"""Points 130 to 133: loops, loop rooms, which kind gives which, what is done alone."""

import itertools
import math
import random
import unittest

from helpers import NO_NUMBERS, NO_ROWS, Case, line_web, ring_web
from nowaittasks.after import after_task
from nowaittasks.books import book_of, is_book
from nowaittasks.errors import BadNumber, BadRow, NotLoop, NotOneRing
from nowaittasks.loops import Loop, alone, loop_gives, loop_room, loop_sums
from nowaittasks.numbers import Numbers
from nowaittasks.pulling import can_pull
from nowaittasks.sumplans import has_sums, sum_plan
from nowaittasks.tasks import Task
from nowaittasks.told_rooms import told_bars, told_plan
from nowaittasks.webs import Web
from test_clocks import NO_INTEGERS
from test_folding import EIGHT
from test_numbers import moore
from test_pulling import loop_cells
from test_solving import NO_LEAST
from test_sumplans import FULL, TWICE

THREE = ((0, 1), (1, 2), (0, 2))
RING = Web.of((0, 1), (1, 2), (0, 2))
KINDS = [(k, s) for k in (0, 1, 2, 3, 4, 6, 12) for s in (-6, -3, -1, 0, 1, 2, 3, 4, 8)]
# Things that are no kind.
NO_KINDS = NO_ROWS + ((), (1,), (1, 2, 3), (-1, 2), (True, 2), (1, True), (None, 1), (1, None), (1.0, 2), (1, 2.0), ("1", 2))


def goes_into(number, other):
    """Whether a number goes into another one; 0 goes into 0 alone."""
    return other % number == 0 if number else other == 0


def gives_by_words(one, other):
    """Whether a kind gives another one, straight from point 132."""
    (k, s), (l, t) = one, other
    g = 1 if k == l == 0 else l // math.gcd(k, l)
    return goes_into(math.gcd(s * g, l), t)


def sums_by_words(one, other, m):
    """Whether a kind gives another one in sums of m hours, straight from point 132."""
    (k, s), (l, t) = one, other
    h = math.gcd(l, m)
    g = h // math.gcd(k, h)
    return goes_into(math.gcd(s * g, h), t)


class TestLoop(Case):
    def check(self, loop, web, first, second, third):
        """What a loop tells, straight from point 130."""
        self.assertIs(type(loop), Loop)
        self.assertEqual(loop.web, web)
        self.same([loop.first, loop.second, loop.third], [tuple(first), tuple(second), tuple(third)])
        ring = tuple(first[:-1]) + tuple(second[:-1]) + tuple(third[:0:-1])
        self.same(loop.loop_ring, ring)
        corners = (first[0], second[0], third[-1])
        sides = [Web(list(zip(side, side[1:]))) for side in (first, third, second)]
        self.assertEqual(loop.loop_task, Task(FULL, web, [Web.of((point,)) for point in corners] + sides + [web]))
        told = Numbers(web)
        self.same(loop.kind, (told.hours, told.around(ring)))

    def test_what_is_told(self):
        for web, sides in ((RING, THREE), (FULL, THREE), (TWICE, ((0, 1), (1, 3), (0, 3))), (moore(3), THREE),
                           (ring_web(6), ((0, 1, 2), (2, 3, 4), (0, 5, 4))), (ring_web(6), ((4, 3), (3, 2, 1, 0), (4, 5, 0))),
                           (Web.of((0, 1, 2), (2, 7), (7, 8)), ((1, 0), (0, 2), (1, 2))), (Web.complete((3, 4, 6, 9)), (
                               (9, 4), (4, 3), (9, 6, 3)))):
            self.check(Loop(web, *sides), web, *sides)
            self.check(Loop(web, *[list(side) for side in sides]), web, *sides)

    def test_random_loops(self):
        chance = random.Random(1)
        kinds = set()
        for times in (1, 2, 3, 5):
            web = moore(times)
            for _ in range(25):
                ring = chance.choice([ring for ring in loops_of(web, chance) if len(ring) > 2])
                one, other = sorted(chance.sample(range(1, len(ring)), 2))
                sides = (ring[:one + 1], ring[one:other + 1], (ring[other:] + ring[:1])[::-1])
                self.check(Loop(web, *sides), web, *sides)
                kinds.add(Loop(web, *sides).kind)
        self.assertGreater(len(kinds), 4)

    def test_not_of_one_ring(self):
        loop = Loop(EIGHT, *THREE)
        self.same([loop.loop_ring, loop.first], [(0, 1, 2), (0, 1)])
        self.assertEqual(loop.loop_task.rooms[-1], EIGHT)
        with self.assertRaises(NotOneRing) as caught:
            Numbers(EIGHT)
        for _ in range(2):
            self.fails(NotOneRing, {"edge": caught.exception.edge}, lambda: loop.kind)

    def test_errors_of_webs(self):
        for web in NO_ROWS + (Web(()), Web.of((0, 1), (1, 2), (0, 2), (3, 4)), RING.cells):
            self.fails(NotLoop, {"word": "web"}, Loop, web, None, None, None)

    def test_errors_of_sides(self):
        good = ((0, 1, 2), (2, 3, 4), (0, 5, 4))
        bad = NO_ROWS + ((), (0,), (0, 2), (0, 0), (0, 1, 0), (0, 1, 1), (0, 9), (0, True), (0, None), (0, 1, 2, 3, 4, 5, 0))
        for side in bad:
            self.fails(NotLoop, {"word": "first"}, Loop, ring_web(6), side, None, None)
            self.fails(NotLoop, {"word": "second"}, Loop, ring_web(6), good[0], side, None)
            self.fails(NotLoop, {"word": "third"}, Loop, ring_web(6), good[0], good[1], side)

    def test_errors_of_ends(self):
        good = ((0, 1, 2), (2, 3, 4), (0, 5, 4))
        for place, side in ((0, (1, 2)), (0, (0, 1)), (1, (3, 4)), (1, (2, 3)), (2, (5, 4)), (2, (0, 5)), (2, (4, 5, 0)),
                            (1, (4, 3, 2)), (0, (2, 1, 0))):
            sides = list(good)
            sides[place] = side
            self.fails(NotLoop, {"word": "ends"}, Loop, ring_web(6), *sides)

    def test_sides_that_meet_elsewhere(self):
        web = ring_web(6) | Web.of((1, 3), (1, 5), (3, 5), (1, 4))
        for sides in (((0, 1, 2), (2, 3, 1, 4), (0, 5, 4)), ((0, 1, 2), (2, 3, 4), (0, 1, 4)), ((0, 1, 2), (2, 1, 4), (0, 5, 4)),
                      ((0, 1, 2), (2, 3, 5, 4), (0, 5, 4)), ((0, 5, 1, 2), (2, 3, 4), (0, 5, 4)),
                      ((0, 1, 2), (2, 1, 0, 5), (0, 5)), ((0, 1), (1, 0), (0,))):
            word = "apart" if len(sides[2]) > 1 else "third"
            self.fails(NotLoop, {"word": word}, Loop, web, *sides)
        # There and back along one edge: the corners 0 and 2 are one.
        self.fails(NotLoop, {"word": "ends"}, Loop, web, (0, 1), (1, 0), (0, 1))

    def test_stays_when_rows_are_changed(self):
        sides = [[0, 1], [1, 2], [0, 2]]
        loop = Loop(RING, *sides)
        for side in sides:
            side.clear()
        self.check(loop, RING, *THREE)


def loops_of(web, chance):
    """Some rings of a web without a point twice."""
    found = []
    for _ in range(30):
        walk = [chance.choice(web.points)]
        while True:
            near = [point for point in web.neighbours(walk[-1]) if point not in walk]
            if len(walk) > 3 and walk[0] in web.neighbours(walk[-1]) and chance.random() < 0.4:
                found.append(tuple(walk))
                break
            if not near:
                break
            walk.append(chance.choice(near))
    return found + [(0, 1, 2)]


class TestLoopRoom(Case):
    def test_by_words(self):
        for hours in range(7):
            for turns in range(1, 5):
                cells, outer = loop_cells(hours, turns)
                loop = loop_room(hours, turns)
                self.assertIs(type(loop), Loop)
                self.assertEqual(loop.web, Web(cells))
                first, second = outer[:turns + 1], outer[turns:2 * turns + 1]
                third = outer[:1] + outer[:2 * turns - 1:-1]
                self.same([loop.first, loop.second, loop.third, loop.loop_ring], [first, second, third, outer])
                self.same(loop.kind[0], hours)
                self.assertTrue(goes_into(hours, loop.kind[1] - turns))
                self.assertEqual(loop.kind, (Numbers(loop.web).hours, Numbers(loop.web).around(outer)))

    def test_points(self):
        for hours, turns in ((0, 1), (0, 4), (1, 1), (3, 2), (6, 3)):
            web = loop_room(hours, turns).web
            self.same(web.points, tuple(range(3 + 3 * turns + (3 * hours + 1 if hours else 0))))
            self.assertEqual(len(web.triangles), 6 * turns + 9 * hours)

    def test_what_is_done(self):
        for hours in range(5):
            for turns in range(1, 4):
                loop = loop_room(hours, turns)
                task = loop.loop_task
                good = math.gcd(hours, turns) == hours
                self.assertEqual(can_pull(loop.web, loop.loop_ring), good)
                self.assertIs(alone(loop.kind), good)
                for mod in (0, 2, 3, 4, 6, 9):
                    self.assertEqual(has_sums(task, mod), goes_into(math.gcd(mod, hours), turns))
                if hours < 4:
                    self.assertEqual(told_plan(task) is not None, good)
                self.assertEqual(told_bars(task) is None, good)

    def test_errors(self):
        for hours in NO_NUMBERS:
            self.fails(BadNumber, {"word": "hours"}, loop_room, hours, None)
        for turns in NO_NUMBERS + (0,):
            self.fails(BadNumber, {"word": "turns"}, loop_room, 0, turns)


class TestGives(Case):
    def test_by_words(self):
        for one, other in itertools.product(KINDS, repeat=2):
            due = gives_by_words(one, other)
            self.assertIs(loop_gives(one, other), due)
            for hours in (2, 3, 4, 6, 12):
                self.assertIs(loop_sums(list(one), list(other), hours), sums_by_words(one, other, hours))

    def test_some(self):
        for one, other, due in (((0, 1), (0, 2), True), ((0, 2), (0, 1), False), ((2, 1), (4, 1), False), ((4, 1), (2, 1), True),
                                ((0, 0), (0, 0), True), ((0, 0), (0, 1), False), ((3, 1), (0, 0), True), ((3, 1), (0, 1), False),
                                ((2, 1), (3, 1), False), ((6, 1), (4, 2), True), ((0, -2), (0, 4), True), ((0, 4), (0, -2), False)):
            self.assertIs(loop_gives(one, other), due)
        self.same([loop_sums((2, 1), (4, 1), 2), loop_sums((2, 1), (4, 1), 4)], [True, False])
        large = (10 ** 12, 7 * 10 ** 11)
        self.same([loop_gives((0, 10 ** 12), large), loop_gives((0, 10 ** 11), large), loop_sums((0, 10 ** 12), large, 10 ** 9)],
                  [False, True, True])

    def test_order(self):
        # Point 133, for all kinds of a few.
        for one in KINDS:
            self.assertIs(loop_gives(one, one), True)
            self.assertIs(loop_gives((0, 1), one), True)
            self.assertEqual(alone(one), all(loop_gives(other, one) for other in KINDS))
            for other in KINDS:
                given = loop_gives(one, other)
                if given:
                    for third in KINDS:
                        if loop_gives(other, third):
                            self.assertIs(loop_gives(one, third), True)
                    self.assertTrue(all(goes_into(math.gcd(m, other[0]), other[1]) for m in range(2, 40)
                                        if goes_into(math.gcd(m, one[0]), one[1])))
                elif one[0] == 0 or other[0] >= 1 and one[0] % other[0] == 0:
                    self.assertFalse(all(goes_into(math.gcd(m, other[0]), other[1]) for m in range(2, 40)
                                         if goes_into(math.gcd(m, one[0]), one[1])))
        for s, t in itertools.product(range(-5, 6), repeat=2):
            self.assertEqual(loop_gives((0, s), (0, t)), goes_into(s, t))
            for k in (1, 2, 5):
                self.assertEqual(loop_gives((k, s), (0, t)), t == 0)

    def test_sums_of_all_hours(self):
        # What gives in whole does so in sums of all hours.
        for one, other in itertools.product(KINDS, repeat=2):
            if loop_gives(one, other):
                self.assertTrue(all(loop_sums(one, other, hours) for hours in range(2, 30)))

    def test_errors(self):
        for kind in NO_KINDS:
            self.fails(BadRow, {"place": 0}, loop_gives, kind, kind)
            self.fails(BadRow, {"place": 1}, loop_gives, (0, 1), kind)
            self.fails(BadRow, {"place": 0}, loop_sums, kind, None, 1)
            self.fails(BadRow, {"place": 1}, loop_sums, (2, -3), kind, 1)
            self.fails(BadRow, {"place": 0}, alone, kind)
        for entry in NO_INTEGERS:
            self.fails(BadRow, {"place": 1}, loop_gives, [0, 1], (2, entry))
        for hours in NO_LEAST:
            self.fails(BadNumber, {"word": "hours"}, loop_sums, (0, 1), (2, 1), hours)

    def test_alone(self):
        for kind, due in (((2, 4), True), ((0, 4), False), ((0, 0), True), ((1, 7), True), ((3, -6), True), ((3, 4), False),
                          ((6, 3), False), ((10 ** 12, 2 * 10 ** 12), True)):
            self.same([alone(kind), alone(list(kind))], [due, due])


class TestLoopsAfterLoops(Case):
    LOOPS = (Loop(RING, *THREE), Loop(FULL, *THREE), Loop(TWICE, (0, 1), (1, 3), (0, 3)), loop_room(0, 1),
             Loop(ring_web(6), (0, 1, 2), (2, 3, 4), (0, 5, 4)), Loop(TWICE, (1, 2), (2, 3, 4), (1, 4)),
             Loop(Web.of((0, 1, 2), (1, 2, 3), (2, 3, 4)), (0, 1), (1, 3, 4), (0, 2, 4)))
    GIVEN = LOOPS[:6] + (loop_room(1, 1), loop_room(2, 1), loop_room(2, 2), loop_room(0, 2), loop_room(3, 1))

    def test_as_the_kinds_tell(self):
        told = {True: 0, False: 0}
        for one, other in itertools.product(self.LOOPS, self.GIVEN):
            many = 1
            for cell in one.loop_task.outputs.points:
                many *= len(other.web.points) if cell not in one.loop_ring else 1
            if many > 1200:
                continue
            rest = after_task(other.loop_task, one.loop_task)
            due = gives_by_words(one.kind, other.kind)
            self.assertEqual(has_sums(rest, 0), due)
            for hours in (2, 3, 4):
                self.assertEqual(has_sums(rest, hours), sums_by_words(one.kind, other.kind, hours))
            told[due] += 1
        self.assertTrue(min(told.values()) > 12, told)

    def test_plans(self):
        for one, other in ((self.LOOPS[0], self.LOOPS[0]), (self.LOOPS[0], self.LOOPS[2]), (self.LOOPS[4], self.LOOPS[0])):
            self.assertIsNotNone(told_plan(after_task(other.loop_task, one.loop_task)))
        for one, other in ((self.LOOPS[1], self.LOOPS[0]), (self.LOOPS[2], self.LOOPS[0])):
            rest = after_task(other.loop_task, one.loop_task)
            self.assertIsNone(told_plan(rest))

    def test_books_of_loops(self):
        for loop in self.LOOPS:
            task = loop.loop_task
            corners = [web.points[0] for web in task.rooms[:3]]
            for hours in (2, 3):
                sums = sum_plan(task, corners, hours)
                self.assertEqual(sums is not None, goes_into(math.gcd(hours, loop.kind[0]), loop.kind[1]))
                if sums is not None:
                    box, walks, signs, _ = book_of(sums)
                    self.assertIs(is_book(box, walks, signs, hours), True)

    def test_the_whole_of_a_line(self):
        self.fails(NotLoop, {"word": "apart"}, Loop, line_web(3), (0, 1), (1, 2, 3), (0, 1, 2, 3))


if __name__ == "__main__":
    unittest.main()
