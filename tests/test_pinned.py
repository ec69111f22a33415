"""Points 47, 48, 49 and 52: pinned tasks, pairs that bar rounds, lying tasks, starred inputs."""

import itertools
import random
import unittest

from helpers import NO_NUMBERS, NO_ROWS, Case, line_web, ring_web
from nowaittasks.balls import is_helly, meeting_balls
from nowaittasks.errors import BadNumber, BadRow, BadTask, NotJoined
from nowaittasks.pictures import Picture
from nowaittasks.pinned import Pinned, barring_pair, least_rounds, lying_task, pinned_task, with_starred
from nowaittasks.tasks import Task
from nowaittasks.twos import two_points
from nowaittasks.webs import Web
from test_balls import random_graph

LINE = line_web(4)
# No rows of pairs of an input of 0 to 4 and a point of the line.
NO_PINS = (None, 5, (), (1,), (1, 2, 3), "12", (5, 0), (0, 5), (-1, 0), (0, -1), (True, 0), (0, True), ("0", 0),
           (0, None), ([0], 0), (0, (0,)), {0: 1, 1: 0})


def random_pinned(seed, most=3):
    """Some pins of a few inputs, in lines and triangles, to points of a small graph."""
    chance = random.Random(seed)
    inputs = chance.choice((Web.of((0, 1)), Web.of((0, 1, 2)), Web.of((1, 2), (2, 4)), Web.of((0, 1), (2, 3)),
                            Web.of((0, 1, 2), (2, 3)), ring_web(4), Web.of((0, 3), (3, 5), (5, 6)), Web.of((7,))))
    graph = random_graph(seed, chance.choice((1, 2, 4, 5, 6))) if seed % 3 else line_web(chance.choice((2, 4, 7)))
    many = chance.randrange(min(most, len(inputs.points)) + 1)
    pins = [(u, chance.choice(graph.points)) for u in chance.sample(inputs.points, many)]
    return Pinned(inputs, graph, pins)


def bars_by_words(pinned, size, many):
    """The pairs of pinned inputs that bar many rounds, from point 48."""
    base = 3 if size == 2 else 2
    found = []
    for (u, low), (v, high) in itertools.combinations(sorted(pinned.pins), 2):
        steps = pinned.inputs.steps(u, v)
        if steps is not None and pinned.graph.steps(low, high) > base ** many * steps:
            found.append((u, v))
    return found


class TestPinned(Case):
    def test_attributes(self):
        pinned = Pinned(Web.of((0, 1, 2)), LINE, [[2, 4], (0, 4)])
        self.assertEqual([pinned.inputs, pinned.graph], [Web.of((0, 1, 2)), LINE])
        self.same(pinned.pins, ((0, 4), (2, 4)))
        self.same(Pinned(Web.of((3,)), LINE, ()).pins, ())

    def test_later_changes(self):
        pins = [[2, 4], [0, 4]]
        pinned = Pinned(Web.of((0, 1, 2)), LINE, pins)
        pins[0][0] = 1
        pins.append([1, 1])
        self.same(pinned.pins, ((0, 4), (2, 4)))

    def test_errors_in_order(self):
        for inputs in (None, Web(()), (0, 1), Task):
            self.fails(BadTask, {"word": "inputs", "cell": ()}, Pinned, inputs, None, None)
        for graph in (None, Web(()), Web.of((0,), (1,)), Web.of((0, 1), (2, 3, 4)), [(0, 1)]):
            self.fails(NotJoined, {"cell": ()}, Pinned, LINE, graph, None)
        for pins in NO_ROWS:
            self.fails(BadRow, {"place": -1}, Pinned, LINE, LINE, pins)
        for pin in NO_PINS:
            self.fails(BadRow, {"place": 0}, Pinned, LINE, LINE, [pin, None])
            self.fails(BadRow, {"place": 1}, Pinned, LINE, LINE, ((3, 3), pin, None))
        self.fails(BadRow, {"place": 2}, Pinned, LINE, LINE, [(0, 1), (1, 1), (0, 1)])


class TestPinnedTask(Case):
    def test_by_words(self):
        for seed in range(60):
            pinned = random_pinned(seed)
            task = pinned_task(pinned)
            graph, pins = pinned.graph, dict(pinned.pins)
            cells = [cell for size in (1, 2, 3) for cell in itertools.combinations(graph.points, size)
                     if all(graph.steps(one, other) == 1 for one, other in itertools.combinations(cell, 2))]
            self.same(task.outputs.cells, tuple(cells))
            self.assertEqual(task.inputs, pinned.inputs)
            for cell, room in zip(task.inputs.cells, task.rooms):
                alone = len(cell) == 1 and cell[0] in pins
                self.same(room.cells, ((pins[cell[0]],),) if alone else tuple(cells))

    def test_greatest(self):
        graph = Web(list(itertools.combinations(range(60), 2)))
        task = pinned_task(Pinned(Web.of((0, 1, 2)), graph, [(0, 5)]))
        self.same([len(task.outputs.triangles), task.room((0,)).cells], [34220, ((5,),)])


class TestPairs(Case):
    def test_by_words(self):
        seen = set()
        for seed in range(150):
            pinned = random_pinned(seed)
            for size, many in itertools.product((2, 3, 5), (0, 1, 2)):
                due = bars_by_words(pinned, size, many)
                self.same(barring_pair(pinned, size, many), due[0] if due else None)
                seen.add((size == 2, many, bool(due)))
            for size in (2, 3, 4):
                least = least_rounds(pinned, size)
                self.same(least, min(r for r in range(9) if not bars_by_words(pinned, size, r)))
        self.assertGreaterEqual(len(seen), 9)

    def test_edges(self):
        far = Pinned(Web.of((0, 1)), line_web(59), [(0, 0), (1, 59)])
        self.same([least_rounds(far, 2), least_rounds(far, 3), least_rounds(far, 60)], [4, 6, 6])
        for steps, two, more in ((0, 0, 0), (1, 0, 0), (2, 1, 1), (3, 1, 2), (4, 2, 2), (5, 2, 3), (9, 2, 4),
                                 (10, 3, 4), (16, 3, 4), (17, 3, 5)):
            pinned = Pinned(Web.of((5, 9)), line_web(20), [(9, 0), (5, steps)])
            self.same([least_rounds(pinned, 2), least_rounds(pinned, 3)], [two, more])
            for size, least in ((2, two), (3, more), (4, more)):
                for many in range(7):
                    self.same(barring_pair(pinned, size, many), (5, 9) if many < least else None)
            self.same(barring_pair(pinned, 2, 40), None)

    def test_more_steps_between_the_inputs(self):
        inputs = Web.of((3, 4), (4, 5))
        for steps, due in ((2, 0), (3, 1), (4, 1), (5, 2), (8, 2), (9, 3)):
            self.same(least_rounds(Pinned(inputs, line_web(9), [(3, 0), (5, steps)]), 3), due)

    def test_inputs_that_are_not_joined_bar_nothing(self):
        pinned = Pinned(Web.of((0, 1), (2, 3)), line_web(9), [(0, 0), (3, 9), (2, 9)])
        self.same([least_rounds(pinned, 2), barring_pair(pinned, 3, 0)], [0, None])

    def test_the_least_pair(self):
        pinned = Pinned(ring_web(6), line_web(9), [(5, 9), (4, 0), (3, 9), (1, 1), (0, 1)])
        self.same([barring_pair(pinned, 3, 0), barring_pair(pinned, 3, 1), barring_pair(pinned, 3, 2)],
                  [(0, 3), (0, 3), (0, 5)])
        self.same([barring_pair(pinned, 3, 3), barring_pair(pinned, 3, 4)], [(3, 4), None])

    def test_errors_in_order(self):
        pinned = random_pinned(1)
        for size in NO_NUMBERS + (0, 1):
            self.fails(BadNumber, {"word": "size"}, barring_pair, pinned, size, -1)
            self.fails(BadNumber, {"word": "size"}, least_rounds, pinned, size)
        for many in NO_NUMBERS:
            self.fails(BadNumber, {"word": "many"}, barring_pair, pinned, 2, many)

    def test_two_names_by_their_corners(self):
        told = {True: 0, False: 0}
        for seed in range(120):
            pinned = random_pinned(seed)
            if len(pinned.graph.points) ** (len(pinned.inputs.points) - len(pinned.pins)) > 300:
                continue
            for many in (0, 1):
                barred = barring_pair(pinned, 2, many) is not None
                fits = two_points(pinned_task(pinned), many) is not None
                if barred:
                    self.assertFalse(fits)
                elif is_helly(pinned.graph):
                    self.assertTrue(fits)
                told[barred] += 1
        self.assertGreater(min(told.values()), 10)


class TestLyingTask(Case):
    def test_lines(self):
        web = Web.of((2, 3), (3, 8))
        pinned = lying_task(web, [[8, 3], (2, 1), (8, 2)])
        self.same(pinned.inputs.edges, ((0, 1), (0, 4), (0, 5), (1, 2), (2, 3), (5, 6)))
        self.same([pinned.inputs.points, pinned.inputs.triangles], [(0, 1, 2, 3, 4, 5, 6), ()])
        self.same(pinned.pins, ((3, 8), (4, 2), (6, 8)))
        self.assertEqual(pinned.graph, web)

    def test_no_balls(self):
        pinned = lying_task(LINE, ())
        self.same([pinned.inputs.cells, pinned.pins], [((0,),), ()])

    def test_it_lies(self):
        for web in (ring_web(4), Web.of((0, 1, 3), (1, 2, 4), (0, 2, 5))):
            lying = lying_task(web, meeting_balls(web))
            for size in (2, 3):
                self.same(barring_pair(lying, size, 0), None)
            task = pinned_task(lying)
            self.assertIsNone(two_points(task, 0))
            self.assertIsNotNone(two_points(task, 1))

    def test_errors_in_order(self):
        for web in (None, Web(()), Web.of((0,), (1,)), [(0, 1)]):
            self.fails(NotJoined, {"cell": ()}, lying_task, web, None)
        for balls in NO_ROWS:
            self.fails(BadRow, {"place": -1}, lying_task, LINE, balls)
        for entry in (None, (), (1,), (1, 2, 3), "12", (5, 1), (-1, 1), (True, 1), ([1], 1), (1, 0), (1, -1), (1, True),
                      (1, None), (1, 1.0)):
            self.fails(BadRow, {"place": 0}, lying_task, LINE, [entry, None])
            self.fails(BadRow, {"place": 1}, lying_task, LINE, ((1, 1), entry))
        self.same(lying_task(LINE, [(1, 1), (1, 1)]).pins, ((1, 1), (2, 1)))


class TestStarred(Case):
    def starred_by_words(self, web):
        """The starred web, straight from point 52."""
        first = web.points[-1] + 1
        stands = {point: {point} for point in web.points}
        stands.update({first + place: set(cell) for place, cell in enumerate(web.triangles + web.edges)})
        within = {pair: stands[pair[0]] <= stands[pair[1]] or stands[pair[1]] <= stands[pair[0]]
                  for pair in itertools.combinations(sorted(stands), 2)}
        return tuple(cell for size in (1, 2, 3) for cell in itertools.combinations(sorted(stands), size)
                     if all(within[pair] for pair in itertools.combinations(cell, 2)))

    def test_by_words(self):
        for web in (Web.of((4,)), Web.of((2, 5)), Web.of((0, 1, 2)), Web.of((0, 1, 2), (1, 2, 3), (3, 4), (7,)),
                    Web.complete((0, 1, 2, 5)), ring_web(5)):
            pinned = Pinned(web, LINE, [(web.points[-1], 4), (web.points[0], 4)][-len(web.points):])
            starred = with_starred(pinned)
            self.same(starred.inputs.cells, self.starred_by_words(web))
            self.assertEqual(starred.inputs, Picture(web).great().web)
            self.assertEqual([starred.graph, starred.pins], [LINE, pinned.pins])
            for u, v in itertools.product(web.points, repeat=2):
                steps = web.steps(u, v)
                self.same(starred.inputs.steps(u, v), None if steps is None else 2 * steps)

    def test_one_round_less(self):
        changed = 0
        for seed in range(80):
            pinned = random_pinned(seed)
            before, behind = least_rounds(pinned, 3), least_rounds(with_starred(pinned), 3)
            self.same(behind, max(0, before - 1))
            self.same(least_rounds(with_starred(pinned), 4), behind)
            changed += before > 0
        self.assertGreater(changed, 8)


if __name__ == "__main__":
    unittest.main()
