"""Point 6: runs."""

import itertools
import unittest

from helpers import NO_NUMBERS, NO_ROWS, Case, first_of
from nowaittasks.errors import BadName, BadNumber, BadRound, BadRun, TooMany
from nowaittasks.rounds import neat_rounds, round_of
from nowaittasks.runs import Run, count_runs, neat_runs

ALL = round_of([(0, 1, 2)])
TWO = round_of([(2,), (0,)])
ONE = round_of([(2,)])
CROSS = ((0, (0, 1, 2)), (1, (1, 2)), (2, (0, 1, 2)))


class TestRun(Case):
    def test_rounds_names_left(self):
        run = Run([ALL, TWO, ONE])
        self.same((run.rounds, run.names, run.left), ((ALL, TWO, ONE), (0, 1, 2), (2,)))
        self.same((run.full, run.tidy, len(run), list(run)), (False, True, 3, [ALL, TWO, ONE]))
        run = Run((TWO, TWO))
        self.same((run.names, run.left, run.full, run.tidy), ((0, 2), (0, 2), True, True))

    def test_no_rounds(self):
        run = Run((), names=[7, 3])
        self.same((run.rounds, run.names, run.left, run.full, run.tidy, len(run), list(run)),
                  ((), (3, 7), (3, 7), True, True, 0, []))
        self.same(Run([], names=(4,)).names, (4,))

    def test_tidy_and_full(self):
        self.same((Run([CROSS]).tidy, Run([CROSS]).full), (False, True))
        self.same(Run([ALL, CROSS, ALL]).tidy, False)
        self.same(Run([CROSS, ONE]).tidy, False)
        self.same(Run([ALL, ONE]).full, False)

    def test_lists_become_tuples_and_stay(self):
        row = [[0, [0, 1]], [1, [1]]]
        rounds, names = [row], [1, 0]
        run = Run(rounds, names=names)
        row[0][1].append(5)
        rounds.append(ALL)
        names.append(9)
        self.same((run.rounds, run.names), ((((0, (0, 1)), (1, (1,))),), (0, 1)))
        self.same(list(run), [((0, (0, 1)), (1, (1,)))])
        names = [5, 2]
        run = Run((), names=names)
        names.append(1)
        self.same(run.names, (2, 5))

    def test_names_may_be_told(self):
        for names in ((), [], (0, 1, 2), [2, 0, 1]):
            self.assertEqual(Run([ALL, ONE], names=names), Run([ALL, ONE]))
        for names in NO_ROWS + ((0, 1), (0, 1, 2, 3), (0, 1, 1), (0, 1, 2, 2), (0, True, 2), (2,), [0, 1, None]):
            self.fails(BadRun, {"place": -2}, Run, [ALL, ONE], names=names)

    def test_names_of_no_rounds(self):
        self.fails(BadRun, {"place": -2}, Run, [])
        for names in NO_ROWS + ((), [], (1, 1)):
            self.fails(BadRun, {"place": -2}, Run, (), names=names)
        for name in NO_NUMBERS:
            self.fails(BadRun, {"place": -2}, Run, [], names=(0, name))

    def test_bad_rounds(self):
        for thing in NO_ROWS + (Run([ALL]),):
            self.fails(BadRun, {"place": -1}, Run, thing, names=3)
        for row in NO_ROWS + ((), ((0, (1,)),), ((0, (0,)), (1, (1,)))):
            self.fails(BadRun, {"place": 1}, Run, [ALL, row, None], names=3)
            self.fails(BadRun, {"place": 0}, Run, [row])
        self.fails(BadRun, {"place": 2}, Run, [ALL, TWO, ALL])
        self.fails(BadRun, {"place": 1}, Run, [ONE, TWO, None])
        self.fails(BadRun, {"place": 1}, Run, [TWO, round_of([(1,)])])
        self.fails(BadRun, {"place": 2}, Run, [ALL, ONE, round_of([(1,)])])

    def test_names_are_passed_by_keyword(self):
        with self.assertRaises(TypeError):
            Run((), (0,))

    def test_neat(self):
        self.assertEqual(Run.neat([[[0, 1, 2]], ((2,), (0,))]), Run([ALL, TWO]))
        for thing in NO_ROWS:
            self.fails(BadRun, {"place": -1}, Run.neat, thing)
        self.fails(BadRun, {"place": -2}, Run.neat, [])
        self.fails(BadRound, {"place": -1}, Run.neat, [[(0,)], 3])
        self.fails(BadRound, {"place": -1}, Run.neat, [[(0,)], []])
        self.fails(BadRound, {"place": 1}, Run.neat, [[(0,)], [(0,), ()], None])
        # The blocks of all rounds come ahead of the names that the round before lacks.
        self.fails(BadRound, {"place": 0}, Run.neat, [[(0,)], [(1,)], [(0, 0)]])
        self.fails(BadRun, {"place": 1}, Run.neat, [[(0,)], [(1,)], [(0,)]])


class TestRunSigns(Case):
    def test_add(self):
        run = Run([ALL, TWO])
        self.assertEqual(run + Run([TWO, ONE]), Run([ALL, TWO, TWO, ONE]))
        self.assertEqual(run + Run((), names=(2, 0)), run)
        self.assertEqual(Run((), names=(0, 2)) + Run([TWO]), Run([TWO]))
        empty = Run((), names=(3, 1))
        self.assertEqual(empty + empty, empty)
        self.same((empty + empty).names, (1, 3))
        self.assertEqual(run, Run([ALL, TWO]))

    def test_add_other_names(self):
        run = Run([ALL, TWO])
        for other in (Run([ALL]), Run([ONE]), Run((), names=(0,)), Run((), names=(0, 1, 2)), Run.neat([[(0, 3)]])):
            self.fails(BadRun, {"place": -1}, lambda: run + other)
        self.fails(BadRun, {"place": -1}, lambda: Run((), names=(0,)) + Run((), names=(1,)))
        with self.assertRaises(TypeError):
            run + (TWO,)

    def test_equal(self):
        self.same(Run([ALL]) == Run([[[0, [0, 1, 2]], [1, [0, 1, 2]], [2, [0, 1, 2]]]], names=(1, 0, 2)), True)
        self.same(Run((), names=(0, 1)) == Run([], names=[1, 0]), True)
        self.same(Run((), names=(0, 1)) == Run((), names=(0,)), False)
        self.same(Run([ALL]) == Run([ALL, ALL]), False)
        self.same(Run([ALL]) != Run([CROSS]), True)
        self.same(Run([ALL]) != Run([ALL]), False)
        for thing in (None, (ALL,), [ALL], 3, ALL):
            self.same(Run([ALL]) == thing, False)


class TestNeatRuns(Case):
    def test_all_in_order(self):
        for names, many in (((0,), 3), ((0, 1), 0), ((0, 1), 1), ((5, 2), 3), ((0, 1, 2), 2), ((4, 0, 7), 1)):
            due = [Run(rounds, names=names)
                   for rounds in itertools.product(list(neat_rounds(names)), repeat=many)]
            self.assertEqual(list(neat_runs(names, many)), due)
            self.assertEqual(list(neat_runs(list(names), many)), due)
            self.assertEqual(len(due), count_runs(len(names), many))

    def test_the_first_round_is_slowest(self):
        runs = list(neat_runs((0, 1), 2))
        self.same([run.rounds[0] for run in runs[:3]], [round_of([(0,), (1,)])] * 3)
        self.same([run.rounds[1] for run in runs[:3]], list(neat_rounds((0, 1))))

    def test_they_are_full_and_tidy(self):
        for run in neat_runs((1, 3), 3):
            self.same((run.full, run.tidy, run.names, len(run)), (True, True, (1, 3), 3))

    def test_limits(self):
        self.assertEqual(len(list(neat_runs((0, 1), 7))), 2187)
        self.assertEqual(len(list(neat_runs((0, 1, 2), 3))), 2197)
        self.assertEqual(len(list(neat_runs((0, 1, 2, 3, 4), 1))), 541)
        self.assertEqual(len(first_of(neat_runs((3,), 40))), 40)
        for names, many in (((0, 1), 8), ((0, 1, 2), 4), ((0, 1, 2, 3), 2), ((0, 1, 2, 3, 4), 2), ((0, 1), 40)):
            self.fails(TooMany, {"word": "runs"}, lambda: first_of(neat_runs(names, many)))

    def test_errors_in_order(self):
        self.fails(BadName, {"name": -1}, lambda: first_of(neat_runs(None, -1)))
        self.fails(BadName, {"name": -1}, lambda: first_of(neat_runs((), -1)))
        self.fails(BadName, {"name": True}, lambda: first_of(neat_runs((0, True), -1)))
        self.fails(BadName, {"name": 0}, lambda: first_of(neat_runs((0, 1, 2, 3, 4, 5, 0), -1)))
        self.fails(TooMany, {"word": "names"}, lambda: first_of(neat_runs((0, 1, 2, 3, 4, 5), -1)))
        for thing in NO_NUMBERS:
            self.fails(BadNumber, {"word": "many"}, lambda: first_of(neat_runs((0, 1), thing)))

    def test_errors_only_when_the_first_value_is_asked(self):
        for names, many in ((None, 0), ((0,), -1), ((0, 1), 9), (tuple(range(6)), 0)):
            made = neat_runs(names, many)
            with self.assertRaises((BadName, BadNumber, TooMany)):
                next(made)


class TestCountRuns(Case):
    def test_numbers(self):
        self.same([count_runs(size, 1) for size in range(1, 8)], [1, 3, 13, 75, 541, 4683, 47293])
        self.same([count_runs(size, 0) for size in (1, 2, 5)], [1, 1, 1])
        self.same([count_runs(2, 40), count_runs(3, 2), count_runs(5, 30)], [3 ** 40, 169, 541 ** 30])

    def test_errors(self):
        for thing in NO_NUMBERS + (0,):
            self.fails(BadNumber, {"word": "size"}, count_runs, thing, -1)
        for thing in NO_NUMBERS:
            self.fails(BadNumber, {"word": "many"}, count_runs, 2, thing)


if __name__ == "__main__":
    unittest.main()
