"""Points 16, 17 and 18: levels, any schedule, the shown blocks."""

import random
import unittest

from helpers import NO_NUMBERS, NO_ROWS, Case, Words
from nowaittasks.errors import BadName, BadNumber, BadRound
from nowaittasks.levels import Levels, levels_blocks, levels_run, schedule_of, steps_for
from nowaittasks.rounds import blocks_of, neat_rounds, round_of

NO_SIZES = NO_NUMBERS + (0, 7)


def random_schedule(seed):
    """A size and a schedule, in which some names are slower than others."""
    chance = random.Random(seed)
    size = chance.randrange(1, 7)
    names = chance.sample(range(size), chance.randrange(1, size + 1))
    weights = [chance.choice((1, 1, 3, 20)) for _ in names]
    return size, chance.choices(names, weights, k=chance.randrange(0, 60 * size))


class TestLevels(Case):
    def test_steps_word_for_word(self):
        for seed in range(150):
            size, schedule = random_schedule(seed)
            levels, words = Levels(size), Words(size)
            for name in schedule:
                if name in words.looks:
                    self.fails(BadName, {"name": name}, levels.step, name)
                    continue
                words.step(name)
                self.same(levels.step(name), words.looks.get(name))
                self.same([levels.level(other) for other in range(size)], words.level)
                self.same([levels.taken(other) for other in range(size)], words.taken)
                self.same(levels.gone, tuple(sorted(words.looks)))
                self.same(levels.wrote, tuple(other for other in range(size) if words.taken[other]))

    def test_at_first(self):
        levels = Levels(3)
        self.same((levels.wrote, levels.gone), ((), ()))
        self.same([(levels.level(name), levels.taken(name)) for name in range(3)], [(4, 0)] * 3)

    def test_one_name(self):
        levels = Levels(1)
        self.same([levels.step(0), levels.level(0), levels.step(0), levels.taken(0)], [None, 1, (0,), 2])
        self.same((levels.wrote, levels.gone), ((0,), (0,)))
        self.fails(BadName, {"name": 0}, levels.step, 0)
        self.same((levels.level(0), levels.taken(0)), (1, 2))

    def test_point_17(self):
        for seed in range(150):
            size, schedule = random_schedule(seed + 1000)
            levels, looks, low = Levels(size), {}, [size + 1] * size
            for name in schedule:
                if name in looks:
                    continue
                look = levels.step(name)
                low[name] = levels.level(name)
                for bound in range(1, size + 1):
                    self.assertLessEqual(sum(level <= bound for level in low), bound)
                if look is not None:
                    looks[name] = look
                    self.same(levels.level(name), len(look))
                    self.same(levels.taken(name), (size + 1 - len(look)) * (size + 1))
                    self.same(levels.taken(name), steps_for(size, len(look)))
            for name, look in looks.items():
                self.assertIn(name, look)
                # At the end of a schedule some that come so low may still be on their way.
                self.assertLessEqual({other for other in range(size) if low[other] <= len(look)}, set(look))
                for other, its in looks.items():
                    self.assertTrue(set(look) <= set(its) or set(its) <= set(look))
                    if other in look:
                        self.assertLessEqual(set(its), set(look))

    def test_looks_are_all_that_ever_come_so_low(self):
        for seed in range(60):
            size, schedule = random_schedule(seed + 2000)
            took = sorted(set(schedule))
            looks = dict(levels_run(size, schedule + took * 60)[1])
            self.assertEqual(sorted(looks), took)
            for look in looks.values():
                self.same(look, tuple(name for name in took if len(looks[name]) <= len(look)))
            self.same(tuple(sorted(looks.items())), round_of(blocks_of(tuple(sorted(looks.items())))))

    def test_size(self):
        for thing in NO_SIZES:
            self.fails(BadNumber, {"word": "size"}, Levels, thing)
        self.same(Levels(6).level(5), 7)

    def test_names(self):
        levels = Levels(2)
        for thing in NO_NUMBERS + (2,):
            self.fails(BadName, {"name": thing}, levels.step, thing)
            self.fails(BadName, {"name": thing}, levels.level, thing)
            self.fails(BadName, {"name": thing}, levels.taken, thing)
        self.same((levels.wrote, levels.taken(0), levels.taken(1)), ((), 0, 0))

    def test_a_step_that_raises_changes_nothing(self):
        levels = Levels(2)
        for _ in range(6):
            levels.step(0)
        self.same(levels.gone, (0,))
        self.fails(BadName, {"name": 0}, levels.step, 0)
        self.same((levels.taken(0), levels.level(0), levels.gone, levels.wrote), (6, 1, (0,), (0,)))


class TestRunsOfLevels(Case):
    def test_examples(self):
        self.same([steps_for(3, 1), levels_run(3, [0] * 12), levels_blocks(2, (0, 1, 1, 1))],
                  [12, ((0,), ((0, (0,)),)), ((0, 1),)])

    def test_schedules_word_for_word(self):
        for seed in range(120):
            size, schedule = random_schedule(seed + 3000)
            words = Words(size)
            for name in schedule:
                if name not in words.looks:
                    words.step(name)
            due = (tuple(sorted(set(schedule))), tuple(sorted(words.looks.items())))
            self.same(levels_run(size, schedule), due)
            self.same(levels_run(size, tuple(schedule)), due)

    def test_shown_blocks(self):
        for seed in range(150):
            size, schedule = random_schedule(seed + 4000)
            wrote, looks = levels_run(size, schedule)
            blocks = levels_blocks(size, schedule)
            rest, due = set(wrote), []
            for look in sorted({look for _, look in looks}, key=len):
                due.append(tuple(sorted(set(look) & rest)))
                rest -= set(look)
            self.same(blocks, tuple(due + ([tuple(sorted(rest))] if rest else [])))
            self.same(tuple(sorted(name for block in blocks for name in block)), wrote)
            if blocks:
                seen = dict(round_of(blocks))
                for name, look in looks:
                    self.same(seen[name], look)

    def test_some_shown_blocks(self):
        self.same(levels_blocks(3, ()), ())
        self.same(levels_blocks(3, [2]), ((2,),))
        self.same(levels_blocks(3, [2, 0]), ((0, 2),))
        self.same(levels_blocks(2, [1] * 6), ((1,),))
        self.same(levels_blocks(2, [1] * 6 + [0]), ((1,), (0,)))
        self.same(levels_blocks(3, [1] * 12 + [2, 0]), ((1,), (0, 2)))
        self.same(levels_run(3, []), ((), ()))

    def test_errors_in_order(self):
        for ask in (levels_run, levels_blocks):
            for thing in NO_SIZES:
                self.fails(BadNumber, {"word": "size"}, ask, thing, None)
            for thing in NO_ROWS:
                self.fails(BadName, {"name": -1}, ask, 2, thing)
            for thing in NO_NUMBERS + (2,):
                self.fails(BadName, {"name": thing}, ask, 2, [0, 1, thing, -5])
                # Also behind the step in which all have left.
                self.fails(BadName, {"name": thing}, ask, 2, [0, 1] * 6 + [thing])


class TestScheduleOf(Case):
    def test_each_row_of_blocks(self):
        for size in range(1, 5):
            for first in range(1, 2 ** size):
                names = [name for name in range(size) if first >> name & 1]
                for row in neat_rounds(names):
                    blocks = blocks_of(row)
                    schedule = schedule_of(size, blocks)
                    self.assertIs(type(schedule), tuple)
                    self.same(levels_run(size, schedule), (tuple(names), row))
                    self.same(levels_blocks(size, schedule), blocks)
                    self.assertEqual(len(schedule), sum(steps_for(size, len(look)) for _, look in row))

    def test_blocks_in_any_form(self):
        schedule = schedule_of(6, [[5, 0], (3,), [4, 2, 1]])
        self.same(levels_run(6, schedule)[1], round_of([[0, 5], [3], [1, 2, 4]]))

    def test_errors_in_order(self):
        for thing in NO_SIZES:
            self.fails(BadNumber, {"word": "size"}, schedule_of, thing, None)
        for thing in NO_ROWS + ((), []):
            self.fails(BadRound, {"place": -1}, schedule_of, 3, thing)
        for block in NO_ROWS + ((), (0,), (9, 9), (True,)):
            self.fails(BadRound, {"place": 1}, schedule_of, 3, [(0, 8), block])
        self.fails(BadName, {"name": 5}, schedule_of, 3, [(0,), (2, 5), (3,)])
        self.fails(BadName, {"name": 3}, schedule_of, 3, [(3, 0)])


class TestStepsFor(Case):
    def test_numbers(self):
        self.same([steps_for(3, seen) for seen in (1, 2, 3)], [12, 8, 4])
        self.same([steps_for(1, 1), steps_for(6, 1), steps_for(6, 6)], [2, 42, 7])

    def test_errors(self):
        for thing in NO_SIZES:
            self.fails(BadNumber, {"word": "size"}, steps_for, thing, 0)
        for thing in NO_NUMBERS + (0, 4):
            self.fails(BadNumber, {"word": "seen"}, steps_for, 3, thing)


if __name__ == "__main__":
    unittest.main()
