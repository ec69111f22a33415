"""Points 61, 62 and 63: pictures, layers of spots and great layers, numbers and carriers, shape."""

import itertools
import random
import unittest

from helpers import NO_NUMBERS, NO_ROWS, Case, line_web, parts, ring_web
from nowaittasks.errors import BadNumber, BadPoint, BadSpot, BadTask
from nowaittasks.pictures import Picture
from nowaittasks.webs import Web

FULL = Web.complete((0, 1, 2))
INPUTS = (Web.of((4,)), Web.of((1, 3)), FULL, Web.of((0, 1, 2), (1, 2, 5), (5, 7), (9,)), Web.complete((0, 2, 3, 6)),
          Web.of((0, 3), (3, 4), (0, 4)), Web.of((2, 3, 4), (4, 5, 6), (2, 6)))


class Words:
    """A picture straight from points 61 and 62; spots are starred one at a time."""

    def __init__(self, inputs):
        self.cells = {frozenset(cell) for cell in inputs.cells}
        self.carriers = {point: {point} for point in inputs.points}

    def star(self, spot):
        new = max(self.carriers) + 1
        self.carriers[new] = set().union(*[self.carriers[point] for point in spot])
        held = {cell for cell in self.cells if set(spot) <= cell}
        self.cells -= held
        for cell in held:
            for part in [()] + parts(sorted(cell)):
                if not set(spot) <= set(part):
                    self.cells.add(frozenset(part) | {new})
        return new

    def of_size(self, many):
        return sorted(tuple(sorted(cell)) for cell in self.cells if len(cell) == many)

    def ordered(self):
        return tuple(self.of_size(1) + self.of_size(2) + self.of_size(3))


def good_layer(chance, web):
    """Some spots of a web of which no two lie in one triangle, in any order."""
    spots = []
    for spot in chance.sample(web.edges + web.triangles, len(web.edges + web.triangles)):
        clash = any(set(spot) | set(other) <= set(triangle) for other in spots for triangle in web.triangles)
        if not clash and chance.random() < 0.5:
            spots.append(tuple(chance.sample(spot, len(spot))))
    return spots


def random_picture(seed, most=3):
    """A picture of a few layers of any kind over one of the inputs, and what the words make of it."""
    chance = random.Random(seed)
    inputs = INPUTS[seed % len(INPUTS)]
    picture, words, layers = Picture(inputs), Words(inputs), []
    for _ in range(chance.randrange(most + 1)):
        if chance.random() < 0.3 and len(picture.web) < 100:
            spots = words.of_size(3) + words.of_size(2)
            layers.append((True, picture.web, tuple((spot, words.star(spot)) for spot in spots)))
            picture = picture.great()
        else:
            spots = good_layer(chance, picture.web)
            due = sorted([tuple(sorted(spot)) for spot in spots], key=lambda spot: (len(spot), spot))
            layers.append((False, picture.web, tuple((spot, words.star(spot)) for spot in due)))
            picture = picture.starred(spots)
    return picture, words, layers


class TestPictures(Case):
    def test_no_layers(self):
        for inputs in INPUTS:
            picture = Picture(inputs)
            self.assertEqual([picture.inputs, picture.web], [inputs, inputs])
            self.same([picture.layer_count, picture.carrier(inputs.points[0])], [0, inputs.points[:1]])
        for inputs in (None, Web(()), (0,), [(0, 1)]):
            self.fails(BadTask, {"word": "inputs", "cell": ()}, Picture, inputs)
            self.fails(BadTask, {"word": "inputs", "cell": ()}, Picture.greats, inputs, -1)

    def test_by_words(self):
        kinds = {}
        for seed in range(200):
            picture, words, layers = random_picture(seed)
            self.same(picture.web.cells, words.ordered())
            self.same(picture.layer_count, len(layers))
            for number, (great, before, numbered) in enumerate(layers):
                self.same([picture.is_great(number), picture.layer(number)], [great, numbered])
                self.assertEqual(picture.earlier(number), before)
                for spot, new in numbered:
                    for turned in itertools.permutations(spot):
                        self.same(picture.new_point(number, turned), new)
                    self.same(picture.new_point(number, list(spot)), new)
                kinds[(great, len(numbered) > 2)] = True
            for point in picture.web.points:
                self.same(picture.carrier(point), tuple(sorted(words.carriers[point])))
        self.assertEqual(len(kinds), 4)

    def test_one_spot(self):
        fan = Picture(Web.of((0, 1, 2), (0, 1, 3)))
        edge = fan.starred([(1, 0)])
        self.same(edge.web.triangles, ((0, 2, 4), (0, 3, 4), (1, 2, 4), (1, 3, 4)))
        self.same([edge.layer(0), edge.carrier(4)], [(((0, 1), 4),), (0, 1)])
        triangle = fan.starred([[2, 0, 1]])
        self.same(triangle.web.triangles, ((0, 1, 3), (0, 1, 4), (0, 2, 4), (1, 2, 4)))
        self.same(triangle.carrier(4), (0, 1, 2))
        loose = Picture(Web.of((3, 7))).starred([(7, 3)])
        self.same(loose.web.cells, ((3,), (7,), (8,), (3, 8), (7, 8)))

    def test_order_of_numbers(self):
        web = Web.of((0, 1, 2), (2, 3, 4), (5, 6, 7), (7, 8), (8, 9))
        picture = Picture(web).starred([(7, 6, 5), (9, 8), (2, 1), (4, 3, 2), (8, 7)])
        self.same(picture.layer(0), (((1, 2), 10), ((7, 8), 11), ((8, 9), 12), ((2, 3, 4), 13), ((5, 6, 7), 14)))
        great = picture.great()
        spots = [spot for spot, _ in great.layer(1)]
        self.same(spots, list(picture.web.triangles + picture.web.edges))
        self.same([new for _, new in great.layer(1)], list(range(15, 15 + len(spots))))

    def test_one_at_a_time_in_any_order(self):
        for seed in range(40):
            chance = random.Random(seed)
            start = random_picture(seed, 1)[0]
            spots = good_layer(chance, start.web)
            if len(spots) < 2:
                continue
            due, one = start.starred(spots), start
            called = {}
            for spot in chance.sample(spots, len(spots)):
                one = one.starred([spot])
                called[one.web.points[-1]] = due.new_point(start.layer_count, spot)
            cells = {tuple(sorted(called.get(point, point) for point in cell)) for cell in one.web.cells}
            self.assertEqual(cells, set(due.web.cells))

    def test_empty_layers(self):
        picture = Picture(FULL).starred(())
        self.assertEqual([picture.web, picture.earlier(0)], [FULL, FULL])
        self.same([picture.layer_count, picture.layer(0), picture.is_great(0)], [1, (), False])
        point = Picture(Web.of((5,), (8,))).great().great()
        self.same([point.layer_count, point.layer(1), point.is_great(1), point.web.cells], [2, (), True, ((5,), (8,))])
        self.same(picture.starred([]).starred([(0, 1)]).layer(2), (((0, 1), 3),))

    def test_a_picture_never_changes(self):
        spots = [[0, 1]]
        first = Picture(FULL)
        second = first.starred(spots)
        spots[0][0] = 2
        spots.append([0, 2])
        third = second.great()
        self.same([first.layer_count, first.web.cells, second.layer_count, second.layer(0)],
                  [0, FULL.cells, 1, (((0, 1), 3),)])
        self.fails(BadPoint, {"point": 3}, first.carrier, 3)
        self.fails(BadPoint, {"point": 4}, second.carrier, 4)
        self.same([third.layer_count, third.layer(0), third.carrier(4)], [2, (((0, 1), 3),), (0, 1, 2)])

    def test_bad_spots(self):
        web = Web.of((0, 1, 2), (1, 2, 3), (3, 4))
        picture = Picture(web)
        for spots in NO_ROWS:
            self.fails(BadSpot, {"place": -1}, picture.starred, spots)
        for spot in (None, 3, (), (0,), (0, 3), (0, 1, 3), (3, 3), (3, 4, 4), (0, 1, 2, 3), (True, 2), (0, -1), "34",
                     (3, "4"), {3, 4}, ((3, 4),), (3, 5)):
            self.fails(BadSpot, {"place": 0}, picture.starred, [spot, None])
            self.fails(BadSpot, {"place": 1}, picture.starred, ((3, 4), spot, (0, 1), (0, 2)))
        for spots in (((3, 4), (4, 3)), ((0, 1), (1, 0)), ((0, 1), (0, 2)), ((0, 1), (2, 1, 0)), ((2, 0, 1), (1, 0)),
                      ((0, 1, 2), (0, 1, 2)), ((1, 2), (3, 2)), ((1, 3, 2), (1, 2)), ((1, 2), (0, 2, 1))):
            self.fails(BadSpot, {"place": 1}, picture.starred, spots)
            self.fails(BadSpot, {"place": 1}, picture.starred, spots + (None,))
        self.fails(BadSpot, {"place": 2}, picture.starred, [(0, 1), (2, 3), (1, 2)])
        # Spots of unlike triangles may share a point, even an edge.
        for spots in (((0, 1), (1, 3)), ((0, 1, 2), (1, 2, 3)), ((0, 1), (1, 2, 3), (4, 3))):
            self.same(picture.starred(spots).layer_count, 1)

    def test_three_edges_without_their_triangle(self):
        picture = Picture(Web.of((0, 3), (3, 4), (0, 4))).starred([(0, 3), (3, 4), (0, 4)])
        self.same(picture.web.edges, ((0, 5), (0, 6), (3, 5), (3, 7), (4, 6), (4, 7)))


class TestQuestions(Case):
    def test_carriers_of_rows(self):
        picture = Picture(FULL).great().great()
        for cell in picture.web.cells:
            due = set().union(*[picture.carrier(point) for point in cell])
            self.same(picture.carrier_of(cell), tuple(sorted(due)))
            self.assertTrue(FULL.sits(picture.carrier_of(cell)))
            self.same(picture.carrier_of(list(cell)[::-1] + [cell[0]]), tuple(sorted(due)))
        self.same([picture.carrier_of(()), picture.carrier_of([])], [(), ()])
        for point in (-1, True, None, "0", (0,), [0], 99):
            self.fails(BadPoint, {"point": point}, picture.carrier, point)
            self.fails(BadPoint, {"point": point}, picture.carrier_of, (0, point, -7))

    def test_united(self):
        self.same([Picture.united(()), Picture.united([()]), Picture.united([[3, 1], (2, 1), ()])], [(), (), (1, 2, 3)])
        self.same(Picture(FULL).united([(5, -2), [9]]), (-2, 5, 9))

    def test_new_points_of_what_is_no_spot(self):
        picture = Picture(FULL).starred([(0, 1)]).great()
        for spot in (None, 3, "01", (), (0,), (0, 2), (0, 1, 2), (0, 0, 1), (0, 1, 1), (0, -1), (True, 0), ([0], 1),
                     {0, 1}, (0, "1"), ((0, 1),)):
            self.assertIsNone(picture.new_point(0, spot))
        for spot in (None, (0,), (0, 1), (0, 2, 2), (0, 2, 1), (0, 99), (2, True)):
            self.assertIsNone(picture.new_point(1, spot))
        self.same(picture.new_point(1, (3, 0)), picture.new_point(1, [0, 3]))

    def test_numbers_of_layers(self):
        picture = Picture(FULL).starred([(0, 1)]).great()
        for number in NO_NUMBERS + (2, 3):
            for call in (picture.layer, picture.is_great, picture.earlier):
                self.fails(BadNumber, {"word": "number"}, call, number)
            self.fails(BadNumber, {"word": "number"}, picture.new_point, number, None)
        self.fails(BadNumber, {"word": "number"}, Picture(FULL).layer, 0)

    def test_greats(self):
        for inputs in INPUTS:
            picture = Picture(inputs)
            for many in range(3):
                self.assertTrue(Picture.greats(inputs, many) == picture)
                self.assertEqual(Picture.greats(inputs, many).web, picture.web)
                picture = picture.great()
        for many in NO_NUMBERS:
            self.fails(BadNumber, {"word": "many"}, Picture.greats, FULL, many)

    def test_equal(self):
        one = Picture(FULL).starred([(0, 1)]).great()
        self.assertTrue(one == Picture(FULL).starred([[1, 0]]).great())
        edge = Picture(Web.of((0, 1)))
        self.assertEqual(edge.great().web, edge.starred([(0, 1)]).web)
        unlike = [Picture(FULL), Picture(FULL).great(), Picture(FULL).starred([]), Picture(FULL).starred([(0, 1)]), one,
                  Picture(FULL).starred([(0, 2)]), Picture(FULL).starred([(0, 1)]).starred([]), edge, edge.great(),
                  edge.starred([(0, 1)]), Picture(Web.of((3,))), Picture(Web.of((3,))).great(),
                  Picture(Web.of((3,))).starred([]), Picture(FULL).great().starred([(0, 3)])]
        for place, other in itertools.product(range(len(unlike)), repeat=2):
            self.assertIs(unlike[place] == unlike[other], place == other)
            self.assertIs(unlike[place] != unlike[other], place != other)
        for thing in (None, FULL, 0, ()):
            self.assertIs(Picture(FULL) == thing, False)


class TestShape(Case):
    def test_counts_of_one_spot(self):
        for seed in range(60):
            picture = random_picture(seed, 2)[0]
            web = picture.web
            sizes = [len(web.points), len(web.edges), len(web.triangles)]
            for spot in (web.edges + web.triangles)[seed % 4::7]:
                behind = picture.starred([spot]).web
                t = sum(set(spot) <= set(triangle) for triangle in web.triangles)
                more = [1, 1 + t, t] if len(spot) == 2 else [1, 3, 2]
                self.same([len(behind.points), len(behind.edges), len(behind.triangles)],
                          [one + other for one, other in zip(sizes, more)])

    def test_points_less_edges_plus_triangles(self):
        for seed in range(100):
            picture = random_picture(seed)[0]
            for web in (picture.inputs, picture.web):
                self.assertEqual(len(web.points) - len(web.edges) + len(web.triangles),
                                 sum((-1) ** (len(cell) + 1) for cell in picture.inputs.cells))

    def test_paths_over_edges_and_two_triangles_at_other_edges(self):
        for seed in range(100):
            picture = random_picture(seed)[0]
            for u, v in picture.inputs.edges:
                over = Web([cell for cell in picture.web.cells if set(picture.carrier_of(cell)) <= {u, v}])
                self.assertTrue(over.joined and over.thin)
                ends = [point for point in over.points if len(over.neighbours(point)) == 1]
                self.same(tuple(ends), (u, v))
                self.assertTrue(all(len(over.neighbours(point)) <= 2 for point in over.points))
            for edge in picture.web.edges:
                carrier = picture.carrier_of(edge)
                if len(carrier) == 3:
                    held = [cell for cell in picture.web.triangles if set(edge) <= set(cell)]
                    self.same([picture.carrier_of(cell) for cell in held], [carrier, carrier])

    def test_cells_lie_over_cells(self):
        for seed in range(60):
            picture = random_picture(seed)[0]
            self.assertTrue(all(picture.inputs.sits(picture.carrier_of(cell)) for cell in picture.web.cells))

    def test_behind_a_great_layer(self):
        for inputs in INPUTS:
            for before in (Picture(inputs), Picture(inputs).great()):
                behind = before.great()
                stands = {point: {point} for point in before.web.points}
                stands.update({new: set(spot) for spot, new in behind.layer(before.layer_count)})
                if len(stands) > 40:
                    continue
                fits = {pair: stands[pair[0]] <= stands[pair[1]] or stands[pair[1]] <= stands[pair[0]]
                        for pair in itertools.combinations(sorted(stands), 2)}
                due = [cell for size in (1, 2, 3) for cell in itertools.combinations(sorted(stands), size)
                       if all(fits[pair] for pair in itertools.combinations(cell, 2))]
                self.same(behind.web.cells, tuple(due))

    def test_steps_and_triangles_behind_great_layers(self):
        for inputs in INPUTS + (ring_web(5), line_web(4)):
            for many in range(4 if len(inputs) < 12 else 3):
                web = Picture.greats(inputs, many).web
                self.assertEqual(len(web.triangles), 6 ** many * len(inputs.triangles))
                for u, v in itertools.product(inputs.points, repeat=2):
                    steps = inputs.steps(u, v)
                    self.same(web.steps(u, v), None if steps is None else 2 ** many * steps)

    def test_many_layers(self):
        picture = Picture(Web.of((0, 1, 2)))
        for number in range(400):
            low, high = (0, 1) if number == 0 else (0, picture.web.points[-1])
            picture = picture.starred([(low, high)])
        self.same([picture.layer_count, len(picture.web.points), picture.layer(399)], [400, 403, (((0, 401), 402),)])
        self.same([picture.carrier(402), len(picture.earlier(7).points)], [(0, 1), 10])

    def test_many_points(self):
        picture = Picture.greats(Web.of((0, 1, 2)), 4)
        self.same([len(picture.web.points), len(picture.web.triangles)], [673, 1296])


if __name__ == "__main__":
    unittest.main()
