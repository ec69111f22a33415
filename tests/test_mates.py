"""Points 8, 9 and 10: mates, signs, places."""

import itertools
import unittest

from helpers import NO_NUMBERS, Case
from nowaittasks.errors import BadName, BadNumber, BadRun
from nowaittasks.mates import mate, place_of, run_at, sign_of
from nowaittasks.rounds import blocks_of, round_of
from nowaittasks.runs import Run, neat_runs
from nowaittasks.views import views_of

SHAPES = (((0,), 2), ((0, 1), 0), ((0, 1), 1), ((0, 1), 3), ((2, 5), 2), ((0, 1, 2), 1), ((0, 1, 2), 2),
          ((1, 3, 4), 1), ((0, 1, 2, 3), 1), ((0, 2, 4, 6, 7), 1))
INPUTS = (0, 1, 2, 3, 4, 5, 6, 7)
NOT_FULL = Run.neat([[(0, 1)], [(0,)]])
NOT_TIDY = Run([((0, (0, 1, 2)), (1, (1, 2)), (2, (0, 1, 2)))])


def mates_by_views(names, many):
    """For each place of a run and each name the places of the unlike runs with all other views the same."""
    rows = [{view[0]: view for view in views_of(INPUTS, run)} for run in neat_runs(names, many)]
    found = {}
    for name in names:
        others = {}
        for place, row in enumerate(rows):
            others.setdefault(tuple(row[other] for other in names if other != name), []).append(place)
        for together in others.values():
            for place in together:
                found[place, name] = [other for other in together if other != place]
    return found


class TestMates(Case):
    def test_example(self):
        run = Run.neat([((0,), (1,)), ((1,), (0,))])
        self.same([place_of(run), mate(run, 0).rounds],
                  [2, (((0, (0, 1)), (1, (0, 1))), ((0, (0, 1)), (1, (1,))))])

    def test_mates_are_told_by_views(self):
        for names, many in SHAPES:
            if len(names) < 2:
                continue
            runs = list(neat_runs(names, many))
            found = mates_by_views(names, many)
            for place, run in enumerate(runs):
                for name in names:
                    due = found[place, name]
                    self.assertLessEqual(len(due), 1)
                    got = mate(run, name)
                    if due:
                        self.assertEqual(got, runs[due[0]])
                    else:
                        self.assertIsNone(got)

    def test_no_mate_only_where_always_alone_and_last(self):
        for names, many in SHAPES:
            for run in neat_runs(names, many):
                for name in names:
                    lone = all(blocks_of(row)[-1] == (name,) for row in run.rounds)
                    self.same(mate(run, name) is None, lone)

    def test_one_round_alone_differs(self):
        for names, many in SHAPES:
            for run in neat_runs(names, many):
                for name in names:
                    other = mate(run, name)
                    if other is None:
                        continue
                    unlike = [place for place in range(many) if run.rounds[place] != other.rounds[place]]
                    self.assertEqual(len(unlike), 1)
                    behind = run.rounds[unlike[0] + 1:]
                    self.assertTrue(all(blocks_of(row)[-1] == (name,) for row in behind))

    def test_the_way_it_differs(self):
        run = Run.neat([[(0, 1), (2, 3)]])
        self.assertEqual(mate(run, 0), Run.neat([[(0,), (1,), (2, 3)]]))
        self.assertEqual(mate(run, 1), Run.neat([[(1,), (0,), (2, 3)]]))
        self.assertEqual(mate(run, 3), Run.neat([[(0, 1), (3,), (2,)]]))
        run = Run.neat([[(2,), (0, 3), (1,)]])
        self.assertEqual(mate(run, 2), Run.neat([[(0, 2, 3), (1,)]]))
        self.assertEqual(mate(run, 0), Run.neat([[(2,), (0,), (3,), (1,)]]))
        self.assertIsNone(mate(run, 1))
        run = Run.neat([[(0,), (1,)], [(0,), (1,)]])
        self.assertEqual(mate(run, 0), Run.neat([[(0,), (1,)], [(0, 1)]]))
        self.assertIsNone(mate(run, 1))

    def test_mates_of_mates_and_of_unlike_names(self):
        for names, many in SHAPES:
            for run in neat_runs(names, many):
                found = [mate(run, name) for name in names]
                for name, other in zip(names, found):
                    if other is not None:
                        self.assertEqual(mate(other, name), run)
                        self.assertNotEqual(other, run)
                        self.same((other.names, other.full, other.tidy, len(other)), (names, True, True, many))
                real = [other for other in found if other is not None]
                for one, other in itertools.combinations(real, 2):
                    self.assertNotEqual(one, other)

    def test_no_rounds_have_no_mates(self):
        self.assertIsNone(mate(Run((), names=(0, 1)), 1))

    def test_errors(self):
        for run in (NOT_FULL, NOT_TIDY):
            self.fails(BadRun, {"place": -1}, mate, run, 9)
            self.fails(BadRun, {"place": -1}, sign_of, run)
            self.fails(BadRun, {"place": -1}, place_of, run)
        for name in NO_NUMBERS + (1, 4):
            self.fails(BadName, {"name": name}, mate, Run.neat([[(0, 2)]]), name)


class TestSigns(Case):
    def test_sign_by_blocks(self):
        for names, many in SHAPES:
            for run in neat_runs(names, many):
                blocks = sum(len(blocks_of(row)) for row in run.rounds)
                self.same(sign_of(run), 1 if (len(names) * many - blocks) % 2 == 0 else -1)

    def test_some_signs(self):
        self.same([sign_of(Run.neat([rows])) for rows in ([(0, 1)], [(0,), (1,)], [(0, 1, 2)], [(0, 1), (2,)])],
                  [-1, 1, 1, -1])
        self.same([sign_of(Run((), names=(0, 1, 2))), sign_of(Run.neat([[(3,)]] * 5))], [1, 1])

    def test_mates_have_unlike_signs(self):
        for names, many in SHAPES:
            for run in neat_runs(names, many):
                for name in names:
                    other = mate(run, name)
                    if other is not None:
                        self.same(sign_of(other), -sign_of(run))

    def test_signs_add_up_to_one(self):
        for names, many in SHAPES + (((0, 1), 6), ((0, 1, 2), 3)):
            self.assertEqual(sum(sign_of(run) for run in neat_runs(names, many)), 1)


class TestPlaces(Case):
    def test_there_and_back(self):
        for many in range(6):
            runs = {run_at(place, many).rounds: place for place in range(3 ** many)}
            self.assertEqual(len(runs), 3 ** many)
            for run in neat_runs((0, 1), many):
                place = place_of(run)
                self.same(place, runs[run.rounds])
                self.assertEqual(run_at(place, many), run)

    def test_one_round(self):
        self.same([place_of(Run.neat([rows])) for rows in ([(0,), (1,)], [(0, 1)], [(1,), (0,)])], [0, 1, 2])

    def test_two_rounds(self):
        one, both, other = [(0,), (1,)], [(0, 1)], [(1,), (0,)]
        rows = [(one, one), (one, both), (one, other), (both, other), (both, both), (both, one),
                (other, one), (other, both), (other, other)]
        self.same([place_of(Run.neat(row)) for row in rows], list(range(9)))

    def test_neighbours_are_mates(self):
        for many in range(1, 4):
            runs = [run_at(place, many) for place in range(3 ** many)]
            for place, run in enumerate(runs):
                near = [place_of(other) for other in (mate(run, 0), mate(run, 1)) if other is not None]
                self.same(sorted(near), [other for other in (place - 1, place + 1) if 0 <= other < 3 ** many])

    def test_sign_is_one_at_even_places(self):
        for many in range(5):
            for place in range(3 ** many):
                self.same(sign_of(run_at(place, many)), 1 if place % 2 == 0 else -1)

    def test_no_rounds(self):
        self.assertEqual(run_at(0, 0), Run((), names=(0, 1)))
        self.same(place_of(Run((), names=(0, 1))), 0)

    def test_many_rounds(self):
        for place in (0, 1, 3 ** 40 - 1, 3 ** 39, 7 * 10 ** 18 + 5):
            self.same(place_of(run_at(place, 40)), place)
        self.assertEqual(run_at(3 ** 40 - 1, 40), Run.neat([[(1,), (0,)]] * 40))

    def test_other_names(self):
        for names in ((0,), (1,), (0, 2), (0, 1, 2), (1, 2)):
            self.fails(BadRun, {"place": -1}, place_of, Run([round_of([names])]))
            self.fails(BadRun, {"place": -1}, place_of, Run((), names=names))

    def test_errors(self):
        for thing in NO_NUMBERS:
            self.fails(BadNumber, {"word": "place"}, run_at, thing, -1)
            self.fails(BadNumber, {"word": "many"}, run_at, 100, thing)
        for place, many in ((1, 0), (3, 1), (9, 2), (3 ** 40, 40)):
            self.fails(BadNumber, {"word": "place"}, run_at, place, many)


if __name__ == "__main__":
    unittest.main()
