"""Point 5: rounds, neat rounds and blocks."""

import itertools
import unittest

from helpers import NO_NUMBERS, NO_ROWS, Case, first_of
from nowaittasks.errors import BadName, BadRound, NotNeat, TooMany
from nowaittasks.rounds import blocks_of, is_neat, is_round, neat_rounds, round_of, whole_rounds


def every_row(names):
    """All rows of pairs (name, a set with the name), ascending."""
    looks = [tuple(part) for size in range(1, len(names) + 1) for part in itertools.combinations(names, size)]
    choices = [[(name, look) for look in looks if name in look] for name in names]
    return sorted(itertools.product(*choices))


def nested(row):
    """Of any two looks one lies within the other."""
    looks = [set(look) for _, look in row]
    return all(one <= other or other <= one for one in looks for other in looks)


def neat(row):
    """The look of each name seen lies within the look that sees it."""
    looks = {name: set(look) for name, look in row}
    return all(looks[other] <= looks[name] for name in looks for other in looks[name])


def all_block_rows(names):
    """All rows of blocks of the names, blocks ascending, by placing each name."""
    rows = set()
    for places in itertools.product(range(len(names)), repeat=len(names)):
        used = sorted(set(places))
        rows.add(tuple(tuple(name for name, at in zip(names, places) if at == place) for place in used))
    return sorted(rows)


class TestRoundOf(Case):
    def test_own_block_and_earlier_ones(self):
        self.same(round_of([[5, 2], (9,), [0, 7]]),
                  ((0, (0, 2, 5, 7, 9)), (2, (2, 5)), (5, (2, 5)), (7, (0, 2, 5, 7, 9)), (9, (2, 5, 9))))
        self.same(round_of(((3,),)), ((3, (3,)),))

    def test_blocks_that_change_later(self):
        blocks = [[1, 0], [2]]
        row = round_of(blocks)
        self.assertEqual(blocks, [[1, 0], [2]])
        blocks[0].append(7)
        self.same(row, ((0, (0, 1)), (1, (0, 1)), (2, (0, 1, 2))))

    def test_errors(self):
        for thing in NO_ROWS + ((), []):
            self.fails(BadRound, {"place": -1}, round_of, thing)
        for block in NO_ROWS + ((), [], (1, 1), (3, 0), (0,)):
            self.fails(BadRound, {"place": 1}, round_of, [(0,), block, ()])
        for name in NO_NUMBERS:
            self.fails(BadRound, {"place": 0}, round_of, [(1, name)])
            self.fails(BadRound, {"place": 2}, round_of, [(1,), (2,), [name]])


class TestIsRound(Case):
    def test_all_rows_of_few_names(self):
        for names in ((0,), (0, 1), (4, 7), (0, 1, 2), (3, 5, 8), (0, 1, 2, 3)):
            for row in every_row(names):
                self.same(is_round(row), nested(row))

    def test_lists_may_be_passed(self):
        self.same(is_round([[0, [0, 1]], [1, [1]]]), True)
        self.same(is_round([(0, [0])]), True)

    def test_what_is_none(self):
        wrong = NO_ROWS + ((), [], ((0,),), ((0, (0,), 0),), ((0, ()),), ((0, (1,)),), ((0, (0, 1)),),
                           ((1, (1,)), (0, (0, 1))), ((0, (1, 0)), (1, (1,))), ((0, (0, 0)),),
                           ((0, (0,)), (0, (0,))), ((0, (0,)), (1, (0,))), ((0, 0),), (0, (0,)),
                           ((True, (True,)),), ((0, (0, True)), (1, (0, 1))), ((0, (False,)),), ((-1, (-1,)),),
                           ((0, {0}),), ((0, (0,)), (1, (1,))), ((0, (0,)), None), ("ab", "cd"),
                           [[[0], [0]]], ((0.0, (0.0,)),), {0: (0,)}, Exception)
        for thing in wrong:
            self.same(is_round(thing), False)

    def test_is_neat(self):
        for names in ((0, 1, 2), (2, 4, 6, 9)):
            for row in every_row(names):
                if nested(row):
                    self.same(is_neat(row), neat(row))
                    self.same(is_neat([[name, list(look)] for name, look in row]), neat(row))

    def test_is_neat_of_no_round(self):
        for thing in NO_ROWS + ((), ((0, (1,)),)):
            self.fails(BadRound, {"place": -1}, is_neat, thing)
            self.fails(BadRound, {"place": -1}, blocks_of, thing)


class TestBlocksOf(Case):
    def test_there_and_back(self):
        for names in ((0,), (2, 5), (0, 1, 2), (1, 3, 5, 8)):
            for blocks in all_block_rows(names):
                self.same(blocks_of(round_of(blocks)), blocks)
                self.same(round_of(blocks_of(round_of(blocks))), round_of(blocks))

    def test_blocks_come_ascending(self):
        self.same(blocks_of(round_of([[9, 2], [4, 0]])), ((2, 9), (0, 4)))
        self.same(blocks_of([[0, [0, 1]], [1, [1]]]), ((1,), (0,)))

    def test_not_neat(self):
        for row in every_row((0, 1, 2)):
            if nested(row) and not neat(row):
                self.fails(NotNeat, {}, blocks_of, row)
        self.fails(NotNeat, {}, blocks_of, ((0, (0, 1, 2)), (1, (1, 2)), (2, (0, 1, 2))))


class TestNeatRounds(Case):
    def test_numbers(self):
        self.same([len(list(neat_rounds(list(range(many))))) for many in range(1, 6)], [1, 3, 13, 75, 541])

    def test_all_in_the_order_of_their_blocks(self):
        for names in ((0,), (4,), (0, 1), (3, 8), (0, 1, 2), (2, 3, 11), (0, 1, 2, 3), (0, 2, 4, 6, 8)):
            due = [round_of(blocks) for blocks in all_block_rows(names)]
            self.same(list(neat_rounds(names)), due)
            self.same(list(neat_rounds(list(names[::-1]))), due)

    def test_they_are_the_neat_ones(self):
        for names in ((0, 1), (0, 1, 2), (1, 2, 5, 6)):
            due = [row for row in every_row(names) if nested(row) and neat(row)]
            self.same(sorted(neat_rounds(names)), due)

    def test_two_names(self):
        self.same(list(neat_rounds([1, 0])), [((0, (0,)), (1, (0, 1))), ((0, (0, 1)), (1, (0, 1))),
                                              ((0, (0, 1)), (1, (1,)))])

    def test_names_do_not_change(self):
        names = [4, 1, 3]
        list(neat_rounds(names))
        list(whole_rounds(names))
        self.assertEqual(names, [4, 1, 3])


class TestWholeRounds(Case):
    def test_numbers(self):
        self.same([len(list(whole_rounds(list(range(many))))) for many in (1, 2, 3)], [1, 3, 19])

    def test_all_ascending(self):
        for names in ((6,), (0, 1), (1, 9), (0, 1, 2), (2, 5, 7), (0, 1, 2, 3), (1, 3, 5, 7)):
            due = [row for row in every_row(names) if nested(row)]
            self.same(list(whole_rounds(names)), due)
            self.same(list(whole_rounds(list(names[::-1]))), due)


class TestNames(Case):
    def test_errors_of_names(self):
        for rounds, most in ((neat_rounds, 5), (whole_rounds, 4)):
            for thing in NO_ROWS + ((), []):
                self.fails(BadName, {"name": -1}, lambda: first_of(rounds(thing)))
            for entry in NO_NUMBERS + (1,):
                self.fails(BadName, {"name": entry}, lambda: first_of(rounds([2, 1, entry, -7, 2])))
            many = list(range(most + 1))
            self.fails(TooMany, {"word": "names"}, lambda: first_of(rounds(many)))
            self.fails(BadName, {"name": 0}, lambda: first_of(rounds(many + [0])))
            self.fails(BadName, {"name": -3}, lambda: first_of(rounds(tuple(many) + (-3, 0))))
            first_of(rounds(many[1:]))

    def test_errors_only_when_the_first_value_is_asked(self):
        for rounds in (neat_rounds, whole_rounds):
            for thing in (None, (), (True,), (0, 0), tuple(range(9))):
                made = rounds(thing)
                with self.assertRaises((BadName, TooMany)):
                    next(made)


if __name__ == "__main__":
    unittest.main()
