"""Points 19 and 20: whole looks and rounds that wait."""

import itertools
import random
import unittest

from helpers import NO_NUMBERS, NO_ROWS, Case, first_of
from nowaittasks.errors import BadName, BadRound, TooMany
from nowaittasks.looks import look_run, look_schedule, waiting_rounds, waits
from nowaittasks.rounds import is_round, neat_rounds, round_of, whole_rounds


def nested_rows(names):
    """All rounds over the names, from all rows of looks."""
    looks = [part for size in range(1, len(names) + 1) for part in itertools.combinations(names, size)]
    rows = itertools.product(*[[(name, look) for look in looks if name in look] for name in names])
    return [row for row in rows if is_round(row)]


class TestLookRun(Case):
    def test_example(self):
        self.same(look_run((1, 1, 0, 0)), ((0, 1), ((0, (0, 1)), (1, (1,)))))

    def test_some_schedules(self):
        self.same(look_run([]), ((), ()))
        self.same(look_run([7]), ((7,), ()))
        self.same(look_run([9, 4, 9, 9, 9, 2, 4]), ((2, 4, 9), ((4, (2, 4, 9)), (9, (4, 9)))))

    def test_schedules_word_for_word(self):
        for seed in range(100):
            chance = random.Random(seed)
            schedule = [chance.randrange(6) * 3 for _ in range(chance.randrange(14))]
            looks = []
            for name in sorted(set(schedule)):
                steps = [place for place, entry in enumerate(schedule) if entry == name]
                if len(steps) > 1:
                    looks.append((name, tuple(sorted(set(schedule[:steps[1]])))))
            self.same(look_run(schedule), (tuple(sorted(set(schedule))), tuple(looks)))
            if looks and len(looks) == len(set(schedule)):
                self.assertTrue(is_round(looks))
            for name, look in looks:
                self.assertIn(name, look)
                for _, other in looks:
                    self.assertTrue(set(look) <= set(other) or set(other) <= set(look))

    def test_errors(self):
        for thing in NO_ROWS:
            self.fails(BadName, {"name": -1}, look_run, thing)
        for thing in NO_NUMBERS:
            self.fails(BadName, {"name": thing}, look_run, [0, 0, 0, thing, -9])


class TestLookSchedule(Case):
    def test_each_round_comes_from_its_schedule(self):
        for names in ((0,), (5,), (0, 1), (0, 1, 2), (2, 3, 9), (0, 1, 2, 3)):
            for row in whole_rounds(names):
                schedule = look_schedule(row)
                self.assertIs(type(schedule), tuple)
                self.assertEqual(sorted(schedule), sorted(names * 2))
                self.same(look_run(schedule), (names, row))

    def test_five_names_and_lists(self):
        for row in neat_rounds((0, 2, 4, 6, 8)):
            self.same(look_run(look_schedule([[name, list(look)] for name, look in row]))[1], row)

    def test_errors(self):
        for thing in NO_ROWS + ((), ((0, (0,)), (1, (1,)))):
            self.fails(BadRound, {"place": -1}, look_schedule, thing)
            self.fails(BadRound, {"place": -1}, waits, thing)


class TestWaiting(Case):
    def test_waits(self):
        for names in ((0,), (4,), (0, 1), (1, 3), (0, 1, 2), (0, 1, 2, 3)):
            for row in nested_rows(names):
                self.same(waits(row), all(len(names) - len(look) <= 1 for _, look in row))
        self.same(waits([[3, [3]]]), True)
        self.same([waits(round_of(blocks)) for blocks in ([(0, 1), (2,)], [(0,), (1, 2)], [(0, 1, 2)])],
                  [True, False, True])

    def test_the_rounds_that_wait(self):
        for names in ((0, 1), (2, 7), (0, 1, 2), (1, 4, 6), (0, 1, 2, 3)):
            due = sorted(row for row in nested_rows(names) if waits(row))
            self.same(list(waiting_rounds(names)), due)
            self.same(list(waiting_rounds(list(names[::-1]))), due)

    def test_numbers(self):
        for many in range(2, 6):
            rows = list(waiting_rounds(tuple(range(many))))
            self.assertEqual(len(rows), 1 + many * (2 ** (many - 1) - 1))
            self.same(rows, sorted(set(rows)))
            self.assertTrue(all(waits(row) for row in rows))

    def test_errors(self):
        for thing in NO_ROWS + ((), [], (3,), [True]):
            self.fails(BadName, {"name": -1}, lambda: first_of(waiting_rounds(thing)))
        for entry in NO_NUMBERS + (4,):
            self.fails(BadName, {"name": entry}, lambda: first_of(waiting_rounds([4, entry, -6])))
        self.fails(TooMany, {"word": "names"}, lambda: first_of(waiting_rounds(tuple(range(6)))))
        self.fails(BadName, {"name": 2}, lambda: first_of(waiting_rounds(tuple(range(6)) + (2,))))

    def test_errors_only_when_the_first_value_is_asked(self):
        for thing in (None, (1,), (0, 0), tuple(range(6))):
            made = waiting_rounds(thing)
            with self.assertRaises((BadName, TooMany)):
                next(made)


if __name__ == "__main__":
    unittest.main()
