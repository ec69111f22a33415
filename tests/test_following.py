"""Points 64 and 65: steps through a layer, following, last points, reached cells."""

import itertools
import random
import unittest

from helpers import NO_NUMBERS, NO_ROWS, Case, all_runs, line_web, parts, rows_that_sit, sized_web
from nowaittasks.errors import BadInputs, BadNumber, BadRow, BadRun, BadView, TooMany
from nowaittasks.following import follow, last_points, reached, step_through
from nowaittasks.pictures import Picture
from nowaittasks.rounds import neat_rounds, whole_rounds
from nowaittasks.runs import Run, neat_runs
from nowaittasks.views import seen_inputs, views_of
from nowaittasks.webs import Web
from test_pictures import FULL, good_layer, random_picture


def step_by_words(picture, number, point, seen):
    """The point behind a layer, straight from point 64."""
    for spot, new in picture.layer(number):
        if picture.is_great(number) and set(spot) == set(seen):
            return new
        if not picture.is_great(number) and set(spot) <= set(seen):
            return new
    return point


def follow_by_words(picture, view, many):
    """The point to which a view of many rounds leads."""
    if many == 0:
        return view[1]
    seen = {part[0]: follow_by_words(picture, part, many - 1) for part in view[1]}
    return step_by_words(picture, many - 1, seen[view[0]], tuple(seen.values()))


def small_picture(seed, many):
    """A picture of so many layers over one of a few inputs."""
    chance = random.Random(seed)
    picture = Picture(chance.choice((FULL, Web.of((1, 4)), Web.of((0, 1, 2), (2, 3)), Web.of((0, 1, 3), (1, 3, 4)))))
    for _ in range(many):
        picture = picture.great() if chance.random() < 0.4 else picture.starred(good_layer(chance, picture.web))
    return picture


class TestSteps(Case):
    def test_by_words(self):
        for seed in range(80):
            picture, _, layers = random_picture(seed)
            for number, (_, before, _) in enumerate(layers):
                for cell in before.cells:
                    for point in cell:
                        due = step_by_words(picture, number, point, cell)
                        self.same(step_through(picture, number, point, cell), due)
                        self.same(step_through(picture, number, point, list(cell[::-1]) + [cell[0]]), due)

    def test_points_behind_any_round_sit(self):
        for seed in range(60):
            picture, _, layers = random_picture(seed, 2)
            for number, (_, before, _) in enumerate(layers):
                behind = picture.earlier(number + 1) if number + 1 < len(layers) else picture.web
                for cell in before.cells[seed % 5::5]:
                    for size in (1, 2, 3):
                        rows = list(whole_rounds(tuple(range(size))))
                        for places in itertools.product(cell, repeat=size):
                            for row in rows:
                                after = [step_through(picture, number, places[name], [places[x] for x in look])
                                         for name, look in row]
                                self.assertTrue(behind.sits(after))
                                self.assertLessEqual(set(picture.carrier_of(after)), set(picture.carrier_of(cell)))

    def test_errors_in_order(self):
        picture = Picture(Web.of((0, 1, 2), (1, 2, 3))).starred([(1, 2)]).great()
        for number in NO_NUMBERS + (2,):
            self.fails(BadNumber, {"word": "number"}, step_through, picture, number, None, None)
        for seen in NO_ROWS + ((), (0, 3), (0, 1, 2, 3), (0, 4), (1, -1), (1, None), (True,), ([1],)):
            self.fails(BadRow, {"place": -1}, step_through, picture, 0, 1, seen)
        for point in (0, 3, None, True, "1", 1.0, [1]):
            self.fails(BadRow, {"place": -1}, step_through, picture, 0, point, (1, 2))
        self.fails(BadRow, {"place": -1}, step_through, picture, 1, 1, (1, 2))
        self.same([step_through(picture, 0, 1, (1, 2)), step_through(picture, 1, 1, [1, 4, 1])], [4, 13])
        self.same([step_through(picture, 0, 0, (0, 1)), step_through(picture, 1, 4, (4, 4))], [0, 4])


class TestFollow(Case):
    def test_views_by_words(self):
        for seed in range(40):
            picture = small_picture(seed, 2)
            for many in range(3):
                for run in list(neat_runs((0, 1, 2), many))[seed % 7::7] + list(neat_runs((1, 3), many)):
                    for row in rows_that_sit(picture.inputs, len(run.names))[::3]:
                        inputs = [88] * 4
                        for name, entry in zip(run.names, row):
                            inputs[name] = entry
                        views = views_of(inputs, run)
                        due = tuple((view[0], follow_by_words(picture, view, many)) for view in views)
                        self.same(tuple((view[0], follow(picture, view)) for view in views), due)
                        self.same(last_points(picture, inputs, run), due)

    def test_runs_with_stops_and_other_looks(self):
        for seed in range(12):
            picture = small_picture(seed, 3)
            runs = all_runs((0, 1), 3, whole_rounds) + all_runs((0, 1, 2), 1, whole_rounds)
            for run in runs + all_runs((0, 1, 2), 2, whole_rounds)[seed::23]:
                for row in rows_that_sit(picture.inputs, len(run.names))[seed % 3::3]:
                    inputs = dict(zip(run.names, row))
                    inputs = [inputs.get(name, 7) for name in range(3)]
                    points = last_points(picture, inputs, run)
                    self.same(points, tuple((view[0], follow(picture, view)) for view in views_of(inputs, run)))

    def test_no_views(self):
        picture = Picture(Web.of((0, 1), (2, 3))).great()
        for view in (None, 3, (), (0,), (0, -1), (True, 0), [0, 0], (0, ((1, 0),)), (0, ((0, 0), (0, 1))), "view"):
            self.fails(BadView, {}, follow, picture, view)
        deep = (0, ((0, ((0, 0),)),))
        self.fails(BadView, {}, follow, picture, deep)
        self.fails(BadView, {}, follow, Picture(FULL), (0, ((0, 0),)))
        for view in ((0, 4), (0, ((0, 0), (1, 2))), (0, ((0, 4),)), (0, ((0, 0), (1, 1), (2, 2)))):
            self.fails(BadView, {}, follow, picture, view)
        self.same([follow(picture, (0, 3)), follow(picture, (5, ((5, 3),))), follow(picture, (1, ((1, 1), (4, 0))))],
                  [3, 3, 4])

    def test_errors_of_runs_in_order(self):
        picture = Picture(Web.of((0, 1), (2, 3))).great()
        run = Run.neat([((0, 1),)] * 2)
        for inputs in NO_ROWS + ((-1, 1), (True, 1), (1, None)):
            self.fails(BadInputs, {"place": -1}, last_points, picture, inputs, run)
        self.fails(BadInputs, {"place": -2}, last_points, picture, (9,), run)
        for inputs in ((0, 2), (9, 9), [0, 4]):
            self.fails(BadInputs, {"place": -1}, last_points, picture, inputs, run)
        self.fails(BadRun, {"place": -1}, last_points, picture, (0, 1), run)
        self.same(last_points(picture, [0, 1], Run.neat([((0, 1),)])), ((0, 4), (1, 4)))
        self.same(last_points(picture, (9, 2), Run((), names=(1,))), ((1, 2),))
        # The inputs of names that stopped must sit, too.
        stopped = Run([((0, (0,)), (1, (0, 1))), ((0, (0,)),)])
        twice = picture.great()
        self.same(last_points(twice, (0, 1), stopped), ((0, 0),))
        self.fails(BadInputs, {"place": -1}, last_points, twice, (0, 2), stopped)

    def test_many_rounds(self):
        picture = Picture(FULL)
        for number in range(400):
            picture = picture.starred([(0, 1 if number == 0 else picture.web.points[-1])])
        both = Run.neat([[(0, 1)]] * 400)
        self.same(last_points(picture, (0, 1), both), ((0, 3), (1, 3)))
        one = Run.neat([[(0,), (1,)]] * 400)
        self.same(last_points(picture, (0, 1), one), ((0, 0), (1, 402)))
        view = views_of((0, 1), Run.neat([[(0,), (1,)]] * 20))[1]
        self.same(follow(picture, view), 22)


class TestReached(Case):
    def test_cells(self):
        for seed in range(30):
            for many in range(3):
                picture = small_picture(seed, many)
                inputs, web = picture.inputs, picture.web
                over = {size: tuple(cell for cell in web.cells if len(picture.carrier_of(cell)) <= size)
                        for size in (1, 2, 3)}
                self.same(reached(picture, 1), over[1])
                self.same(reached(picture, 1), tuple((point,) for point in inputs.points))
                self.same(reached(picture, 2), over[2])
                if len(rows_that_sit(inputs, 3)) * 13 ** many <= 4000:
                    self.same(reached(picture, 3), web.cells)
                if many == 0 or many == 1 and len(rows_that_sit(inputs, 4)) * 75 <= 4000:
                    self.same(reached(picture, 4), web.cells)
                if many == 0:
                    self.same(reached(picture, 5), web.cells)

    def test_by_runs_and_over_one_cell(self):
        for seed in range(14):
            picture = small_picture(seed, 1)
            for cell in picture.inputs.cells:
                found = set()
                for inputs in itertools.product(cell, repeat=3):
                    for run in neat_runs((0, 1, 2), 1):
                        found.add(tuple(sorted({point for _, point in last_points(picture, inputs, run)})))
                due = {over for over in picture.web.cells if set(picture.carrier_of(over)) <= set(cell)}
                self.assertEqual(found, due)

    def test_untidy_runs_reach_no_more(self):
        for seed in range(10):
            picture = small_picture(seed, 1)
            for took in parts((0, 1, 2)):
                for run in all_runs(took, 1, whole_rounds):
                    for row in rows_that_sit(picture.inputs, len(took)):
                        inputs = dict(zip(took, row))
                        points = last_points(picture, [inputs.get(name, 0) for name in range(3)], run)
                        self.assertTrue(picture.web.sits([point for _, point in points]))

    def test_order(self):
        self.same(reached(Picture(Web.of((5, 9))).great(), 3), ((5,), (9,), (10,), (5, 10), (9, 10)))
        self.assertEqual(len(list(neat_rounds((0, 1, 2)))), 13)

    def test_errors_and_limits(self):
        for size in NO_NUMBERS + (0, 6):
            self.fails(BadNumber, {"word": "size"}, reached, Picture.greats(FULL, 3), size)
        # 27 rows of three inputs, 13 runs a round.
        self.fails(TooMany, {"word": "runs"}, reached, Picture.greats(FULL, 2), 3)
        self.same(len(reached(Picture.greats(FULL, 1), 3)), 25)
        # 3 points and 2 edges of 2 rows of two names each: 7 rows; 3 ** 6 runs are too many.
        path = line_web(2)
        self.fails(TooMany, {"word": "runs"}, reached, Picture.greats(path, 6), 2)
        self.same(len(reached(Picture.greats(path, 5), 2)), 65 + 64)
        # Just 4000 rows of one name, and one more; names that are alone have one run.
        self.same(len(reached(Picture.greats(Web((), points=tuple(range(4000))), 0), 1)), 4000)
        self.fails(TooMany, {"word": "runs"}, reached, Picture(Web((), points=tuple(range(4001)))), 1)
        alone = Picture.greats(Web((), points=(3,)), 300)
        self.same([reached(alone, 1), reached(Picture.greats(Web.of((3, 4)), 7), 1)], [((3,),), ((3,), (4,))])
        # Rows of two: one for each point, two for each edge, three runs of one round.
        web = sized_web(8, 20, 0)
        self.same(len(reached(Picture(web).great(), 2)), 8 + 20 + 40)
        # 75 runs of four names; each edge alone makes 16 rows.
        self.same(len(reached(Picture(Web.of((0, 1), (2, 3), (4, 5))).great(), 4)), 6 + 3 + 6)
        self.fails(TooMany, {"word": "runs"}, reached, Picture(Web.of((0, 1), (2, 3), (4, 5), (6, 7))).great(), 4)
        # 541 runs of five names; 7 points make 3787 rows with runs, 8 points 4328.
        self.same(len(reached(Picture(Web((), points=tuple(range(7)))).great(), 5)), 7)
        self.fails(TooMany, {"word": "runs"}, reached, Picture(Web((), points=tuple(range(8)))).great(), 5)


if __name__ == "__main__":
    unittest.main()
