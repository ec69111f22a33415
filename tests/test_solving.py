"""Point 95: rows of integers solved mod hours, bars of rows, which hours work, pairs."""

import itertools
import math
import random
import unittest

from helpers import NO_ROWS, Case
from nowaittasks.dividing import is_large_prime, least_power, prime_part
from nowaittasks.errors import BadNumber, BadRow
from nowaittasks.solving import Diagonal, least_bad, works
from test_borders import NO_HOURS
from test_clocks import NO_INTEGERS

NO_LEAST = NO_HOURS + (0,)


def solves(rows, right, found, hours):
    """Whether integers solve the rows, straight from point 95."""
    rest = [sum(entry * value for entry, value in zip(row, found)) - side for row, side in zip(rows, right)]
    return all(number % hours == 0 if hours else number == 0 for number in rest)


def solvable(rows, right, hours):
    """Whether some integers solve the rows mod hours of at least 2."""
    width = len(rows[0]) if rows else 0
    return any(solves(rows, right, found, hours) for found in itertools.product(range(hours), repeat=width))


def is_bar(rows, right, found, hours):
    """Whether numbers bar the rows, straight from point 95."""
    columns = [sum(many * row[place] for many, row in zip(found, rows)) for place in range(len(rows[0]))]
    return not any(number % hours for number in columns) and sum(a * b for a, b in zip(found, right)) % hours != 0


def works_by_words(pairs, hours):
    """Whether hours work for pairs, straight from point 95."""
    for first, second in pairs:
        shared = math.gcd(hours, first)
        if second % shared != 0 if shared else second != 0:
            return False
    return True


def random_rows(chance):
    """Some rows and right sides: any, ones with a solution, and multiples."""
    many, width, most = chance.randrange(1, 5), chance.randrange(0, 4), chance.choice((1, 3, 12))
    rows = [[chance.randint(-most, most) * chance.randrange(4) for _ in range(width)] for _ in range(many)]
    right = [chance.randint(-most, most) for _ in range(many)]
    if chance.random() < 0.6:
        values = [chance.randint(-4, 4) for _ in range(width)]
        right = [sum(entry * value for entry, value in zip(row, values)) for row in rows]
        factor = chance.choice((1, 1, 2, 3, 4, 6))
        rows = [[factor * entry for entry in row] for row in rows]
    return rows, right


class TestDiagonal(Case):
    def check(self, rows, right, hours):
        """Everything that is told of the rows mod some hours; whether they are solved."""
        diagonal = Diagonal(rows, right)
        found = diagonal.solve(hours)
        self.assertEqual(works(diagonal.pairs, hours), found is not None)
        if found is not None:
            self.assertIs(type(found), tuple)
            self.assertEqual(len(found), len(rows[0]) if rows else 0)
            self.assertTrue(all(type(value) is int and (0 <= value < hours or hours == 0) for value in found))
            self.assertTrue(solves(rows, right, found, hours))
        if hours:
            barred = diagonal.bar(hours)
            self.assertEqual(barred is None, found is not None)
            if barred is not None:
                self.assertIs(type(barred), tuple)
                self.assertEqual(len(barred), len(rows))
                self.assertTrue(all(type(many) is int and 0 <= many < hours for many in barred))
                self.assertTrue(is_bar(rows, right, barred, hours))
        return found is not None

    def test_by_words(self):
        solved = {hours: 0 for hours in (0, 2, 3, 4, 6)}
        for seed in range(400):
            rows, right = random_rows(random.Random(seed))
            for hours in solved:
                good = self.check(rows, right, hours)
                solved[hours] += good
                if hours:
                    self.assertEqual(good, solvable(rows, right, hours), (rows, right, hours))
            pairs = Diagonal(rows, right).pairs
            for hours in range(2, 30):
                self.assertEqual(works_by_words(pairs, hours), Diagonal(rows, right).solve(hours) is not None)
        self.assertTrue(all(100 < many < 390 for many in solved.values()), solved)

    def test_whole_numbers_exactly_if_all_hours(self):
        told = {True: 0, False: 0}
        for seed in range(400):
            rows, right = random_rows(random.Random(1000 + seed))
            diagonal = Diagonal(rows, right)
            least = least_bad(diagonal.pairs)
            told[least is None] += 1
            self.assertEqual(least is None, diagonal.solve(0) is not None)
            if least is not None:
                self.assertIsNone(diagonal.solve(least))
                for hours in range(2, min(least, 40)):
                    self.assertIsNotNone(diagonal.solve(hours))
        self.assertTrue(min(told.values()) > 100, told)

    def test_pairs_have_their_form(self):
        for seed in range(300):
            pairs = Diagonal(*random_rows(random.Random(seed))).pairs
            self.assertIs(type(pairs), tuple)
            self.assertEqual(pairs, tuple(sorted(set(pairs))))
            for pair in pairs:
                self.assertEqual([type(pair), len(pair), type(pair[0]), type(pair[1])], [tuple, 2, int, int])
                self.assertGreaterEqual(pair[0], 0)
                self.assertNotEqual(pair, (0, 0))
                self.assertNotEqual(pair[0], 1)

    def test_some(self):
        self.same(Diagonal([[2]], [1]).solve(3), (2,))
        self.same([Diagonal([[2]], [1]).solve(0), Diagonal([[2]], [1]).bar(6), Diagonal([[2]], [1]).bar(3)],
                  [None, (3,), None])
        self.same(Diagonal([[3, -5], [1, 1]], [1, 3]).solve(0), (2, 1))
        self.same([Diagonal([[0, 0]], [0]).solve(4), Diagonal([[0, 0]], [2]).solve(2), Diagonal([[0]], [2]).solve(4)],
                  [(0, 0), (0, 0), None])
        self.same(Diagonal([[0]], [2]).bar(4), (1,))

    def test_no_rows_and_no_columns(self):
        for rows, right in (((), ()), ([], [])):
            diagonal = Diagonal(rows, right)
            self.same([diagonal.pairs, diagonal.solve(0), diagonal.solve(7), diagonal.bar(7)], [(), (), (), None])
        for right, hours, good in (((0, 0), 0, True), ((0, 0), 2, True), ((4, 6), 2, True), ((4, 6), 3, False),
                                   ((4, 6), 0, False)):
            self.assertEqual(self.check([[], ()], right, hours), good)

    def test_large(self):
        chance = random.Random(9)
        for many, width, most in ((12, 15, 10 ** 12), (40, 40, 5), (20, 8, 10 ** 6)):
            rows = [[chance.randint(-most, most) for _ in range(width)] for _ in range(many)]
            values = [chance.randint(-most, most) for _ in range(width)]
            right = [sum(entry * value for entry, value in zip(row, values)) for row in rows]
            for hours in (0, 2, 10 ** 9, 999999937):
                self.assertTrue(self.check(rows, right, hours))
            twice = [[6 * entry for entry in row] for row in rows]
            for hours in (0, 2, 10 ** 9):
                self.check(twice, [side + 1 for side in right], hours)
            self.assertFalse(self.check(twice, [side + 1 for side in right], 10 ** 9))

    def test_as_many_rows_and_columns_as_told(self):
        chance = random.Random(4)
        rows = [[0] * 400 for _ in range(400)]
        for row in rows:
            for _ in range(3):
                row[chance.randrange(400)] = chance.choice((1, -1))
        values = [chance.randint(-9, 9) for _ in range(400)]
        right = [sum(entry * value for entry, value in zip(row, values)) for row in rows]
        for hours in (0, 2, 10 ** 9):
            self.assertTrue(self.check(rows, right, hours))

    def test_errors_of_rows(self):
        for rows in NO_ROWS:
            self.fails(BadRow, {"place": -1}, Diagonal, rows, None)
        for entry in NO_ROWS + ((1,), (1, 2, 3), (1, True), (1, None), (1, 1.0), ((1,), 2)):
            self.fails(BadRow, {"place": 1}, Diagonal, [(1, 2), entry, None], None)
        self.fails(BadRow, {"place": 0}, Diagonal, [(1, True)], None)
        self.fails(BadRow, {"place": 0}, Diagonal, [3, (1,)], None)

    def test_errors_of_right_sides(self):
        for right in NO_ROWS + ((), (1,), (1, 2, 3)):
            self.fails(BadRow, {"place": -1}, Diagonal, [(1, 2), (0, 3)], right)
        for entry in NO_INTEGERS:
            self.fails(BadRow, {"place": 1}, Diagonal, [(1, 2), (0, 3)], (1, entry))
            self.fails(BadRow, {"place": 0}, Diagonal, [(1, 2), (0, 3)], (entry, entry))

    def test_errors_of_hours(self):
        diagonal = Diagonal([[2]], [1])
        for hours in NO_HOURS:
            self.fails(BadNumber, {"word": "hours"}, diagonal.solve, hours)
        for hours in NO_LEAST:
            self.fails(BadNumber, {"word": "hours"}, diagonal.bar, hours)

    def test_stays_when_rows_are_changed(self):
        rows, right = [[3, -5], [1, 1]], [1, 3]
        diagonal = Diagonal(rows, right)
        kept = (diagonal.pairs, diagonal.solve(7))
        rows[0][0], right[1] = 9, 9
        rows.clear()
        self.same((diagonal.pairs, diagonal.solve(7)), kept)
        self.same(diagonal.solve(0), (2, 1))


class TestWorks(Case):
    def test_by_words(self):
        for first, second in itertools.product((0, 1, 2, 3, 4, 6, 12, 30), range(-12, 13)):
            for hours in (0,) + tuple(range(2, 13)):
                due = works_by_words([(first, second)], hours)
                self.same([works([(first, second)], hours), works([[0, 0], [first, second]], hours)], [due] * 2)
        self.same([works((), 0), works([(6, 2), (4, 2)], 2), works([(6, 2), (4, 2)], 4), works([(0, 6)], 3)],
                  [True, True, False, True])

    def test_divisors_and_multiples(self):
        chance = random.Random(2)
        for _ in range(300):
            pairs = [(chance.choice((0, 2, 4, 6, 9, 30)), chance.randint(-20, 20)) for _ in range(chance.randrange(3))]
            good = [hours for hours in range(2, 60) if works(pairs, hours)]
            for one in good:
                self.assertTrue(all(works(pairs, hours) for hours in range(2, one) if one % hours == 0))
                self.assertTrue(all(works(pairs, math.lcm(one, other)) for other in good))

    def test_all_hours_by_one_number(self):
        chance = random.Random(3)
        both = set()
        for _ in range(300):
            pairs = [(chance.choice((0, 0, 2, 4, 6, 9, 30)), chance.choice((0, 0, 2, -4, 6, 9))) for _ in range(2)]
            most = math.lcm(*[first for first, _ in pairs if first > 0])
            most *= 1 + max([abs(second) for first, second in pairs if first == 0] + [0])
            self.assertEqual(works(pairs, 0), most == 1 or works(pairs, most))
            both.add(works(pairs, 0))
        self.assertEqual(both, {True, False})

    def test_least_bad_by_words(self):
        for first, second in itertools.product((0, 1, 2, 3, 4, 6, 8, 12, 30, 72), range(-40, 41)):
            pairs = ((first, second), (0, 0), (1, 5))
            bad = [hours for hours in range(2, 200) if not works_by_words(pairs, hours)]
            self.same(least_bad(pairs), bad[0] if bad else None)
            self.assertEqual(least_bad(pairs) is None, works(pairs, 0))
        self.same([least_bad([]), least_bad([(12, 6), (45, 9)]), least_bad([[0, 60]])], [None, 4, 7])

    def test_least_bad_of_two(self):
        chance = random.Random(8)
        for _ in range(300):
            pairs = [(chance.choice((0, 6, 10, 36, 100)), chance.randint(-60, 60)) for _ in range(2)]
            bad = [hours for hours in range(2, 200) if not works_by_words(pairs, hours)]
            self.same(least_bad(pairs), bad[0] if bad else None)

    def test_least_bad_is_a_power_of_a_prime(self):
        for second in (2, 12, 60, 2520, 720720, 10 ** 12):
            least = least_bad([(0, second)])
            primes = [prime for prime in range(2, least + 1) if least % prime == 0 and
                      all(prime % other for other in range(2, prime))]
            self.assertEqual(len(primes), 1)

    def test_large_numbers(self):
        one, other = 999999937, 1000000007
        self.same(least_bad([(one * other, other)]), one)
        self.same(least_bad([(one * other, one)]), other)
        self.same(least_bad([(one * other, 1)]), one)
        self.same(least_bad([(one * one, one)]), one * one)
        self.same(least_bad([(one * one, 5)]), one)
        self.same(least_bad([(2 ** 40 * other, 2 ** 39)]), other)
        self.same(least_bad([(2 ** 20 * other, 2 ** 10)]), 2 ** 11)
        self.same(least_bad([(100003 * 100019 * other, 100003)]), 100019)
        self.same(least_bad([(0, math.factorial(40))]), 41)
        self.same(works([(10 ** 50, 10 ** 49)], 10 ** 9), True)
        self.same(least_bad([(10 ** 50, 10 ** 49)]), 2 ** 50)

    def test_primes(self):
        self.assertEqual([is_large_prime(number) for number in (999999937, 10 ** 10 + 19, 10 ** 10 + 21, 100003 * 100019)],
                         [True, True, False, False])
        self.assertEqual([prime_part(360, 2), prime_part(360, 15), prime_part(7, 6), prime_part(1, 0)], [8, 45, 1, 1])
        self.assertEqual([least_power(6, 1), least_power(6, 2), least_power(6, 6), least_power(35, 25)], [2, 3, 4, 7])

    def test_errors(self):
        for rows in NO_ROWS:
            self.fails(BadRow, {"place": -1}, works, rows, 1)
            self.fails(BadRow, {"place": -1}, least_bad, rows)
        for entry in NO_ROWS + ((), (1,), (1, 2, 3), (-1, 2), (True, 2), (1, True), (1, None), (1, 1.0), ("1", 2)):
            self.fails(BadRow, {"place": 1}, works, [(1, -2), entry, None], 1)
            self.fails(BadRow, {"place": 1}, least_bad, ([0, 2], entry))
        for hours in NO_HOURS:
            self.fails(BadNumber, {"word": "hours"}, works, [(1, 2)], hours)


if __name__ == "__main__":
    unittest.main()
