"""Point 103: rank forms, rank rules, even runs and the side number."""

import itertools
import random
import unittest

from helpers import NO_ROWS, Case, LeafRule
from nowaittasks.errors import BadNumber, BadRow, BadView, TooMany
from nowaittasks.mates import sign_of
from nowaittasks.ranks import RankRule, even_count, rank_form, rank_forms, side_number
from nowaittasks.rules import Rule, TableRule
from nowaittasks.runs import Run, neat_runs
from nowaittasks.views import seen_names, views_of
from test_rules import NO_VIEWS, Raising, Wrong, alone_view

NO_BITS = (2, -1, True, False, None, "0", 1.0, (1,))


def form_by_words(view, names=None):
    """The rank form, straight from point 103."""
    names = names or seen_names(view)
    name, rest = view
    if isinstance(rest, int):
        return names.index(name)
    return (names.index(name), tuple(form_by_words(part, names) for part in rest))


def forms_by_words(many):
    """The rank forms of all views of three names in full tidy runs."""
    return sorted({form_by_words(view) for run in neat_runs((0, 1, 2), many) for view in views_of((0, 0, 0), run)})


def even_by_words(rule):
    """E: the runs of three names in which one bit is told, by their signs."""
    total = 0
    for run in neat_runs((0, 1, 2), rule.many):
        if len({rule(view) for view in views_of((0, 1, 2), run)}) == 1:
            total += sign_of(run)
    return total


def side_by_words(rule):
    """S: the runs of two names in which unlike bits are told, by their signs."""
    total = 0
    for run in neat_runs((0, 1), rule.many):
        one, other = [rule(view) for view in views_of((0, 1, 2), run)]
        total += sign_of(run) if one != other else 0
    return total


def random_rule(seed, many):
    """A rank rule with any bits."""
    chance = random.Random(seed)
    return RankRule(many, [chance.randrange(2) for _ in rank_forms(many)])


class TestForms(Case):
    def test_by_words(self):
        chance = random.Random(1)
        for names in ((0,), (2, 5), (0, 1, 2), (1, 4, 7), (0, 2, 5, 9)):
            for many in (0, 1, 2 if len(names) < 4 else 1):
                runs = list(neat_runs(names, many))
                for run in chance.sample(runs, min(len(runs), 20)):
                    for view in views_of([chance.randrange(9) for _ in range(10)], run):
                        self.same(rank_form(view), form_by_words(view))

    def test_some(self):
        self.same([rank_form((7, 3)), rank_form((7, ((7, 3),))), rank_form((7, ((2, 0), (7, 3))))],
                  [0, (0, (0,)), (1, (0, 1))])
        # A name has one place in the whole view, also within views that have seen fewer names.
        view = (4, ((2, ((2, 0),)), (4, ((2, 0), (4, 1), (9, 1)))))
        self.same(rank_form(view), (1, ((0, (0,)), (1, (0, 1, 2)))))

    def test_views_with_many_rounds(self):
        view = alone_view(3, 8, 40)
        self.same(rank_form(view), form_by_words(view))
        run = Run.neat([[(1,), (0, 2)], [(0, 1, 2)]] * 12)
        form = rank_form(views_of((5, 6, 7), run)[2])
        self.assertEqual(form[0], 2)

    def test_no_views(self):
        for view in NO_VIEWS:
            self.fails(BadView, {}, rank_form, view)

    def test_all_forms(self):
        for many in range(3):
            self.same(rank_forms(many), tuple(forms_by_words(many)))
        self.same(rank_forms(0), (0,))
        self.same(rank_forms(1), ((0, (0,)), (0, (0, 1)), (0, (0, 1, 2)), (1, (0, 1)), (1, (0, 1, 2)), (2, (0, 1, 2))))
        self.same(list(rank_forms(3)), sorted(rank_forms(3)))
        self.same(len(rank_forms(2)), len(set(rank_forms(2))))

    def test_errors_of_forms(self):
        for many in (True, -1, None, "1", 1.0):
            self.fails(BadNumber, {"word": "many"}, rank_forms, many)
            self.fails(BadNumber, {"word": "many"}, RankRule, many, None)
        self.fails(TooMany, {"word": "runs"}, rank_forms, 4)
        self.fails(TooMany, {"word": "runs"}, RankRule, 4, None)


class TestRankRule(Case):
    def test_tells_the_bit_of_the_form(self):
        for many in (0, 1, 2):
            rule = random_rule(many, many)
            bits = [rule.point_for(view) for view in [views_of((0, 1, 2), run) for run in neat_runs((0, 1, 2), many)][0]]
            self.assertTrue(set(bits) <= {0, 1})
            chance = random.Random(many)
            told = [chance.randrange(2) for _ in rank_forms(many)]
            rule = RankRule(many, tuple(told))
            table = dict(zip(rank_forms(many), told))
            for names in ((0,), (3, 5), (0, 4, 6)):
                for run in neat_runs(names, many):
                    for view in views_of((9, 8, 7, 6, 5, 4, 3), run):
                        due = table[form_by_words(view)]
                        self.same([rule(view), rule.point_for(view)], [due, due])

    def test_kind(self):
        rule = RankRule(1, [0, 1, 1, 1, 1, 1])
        self.assertIsInstance(rule, Rule)
        self.same([rule.KIND, RankRule.KIND, rule.many], ["rank", "rank", 1])

    def test_no_such_form(self):
        rule = RankRule(1, [0, 1, 1, 1, 1, 1])
        four = (3, ((0, 0), (1, 0), (2, 0), (3, 0)))
        for view in NO_VIEWS + ((0, 0), four, alone_view(0, 0, 2)):
            self.fails(BadView, {}, rule, view)
            self.fails(BadView, {}, rule.point_for, view)
        self.same(rule.point_for((1, ((0, 0), (1, 0), (3, 0)))), 1)
        self.fails(BadView, {}, RankRule(0, [1]).point_for, (0, ((0, 0),)))

    def test_errors_of_bits(self):
        for bits in NO_ROWS + ((), (0,) * 5, (0,) * 7):
            self.fails(BadRow, {"place": -1}, RankRule, 1, bits)
        for bit in NO_BITS:
            self.fails(BadRow, {"place": 4}, RankRule, 1, [0, 1, 0, 1, bit, None])

    def test_stays_when_bits_are_changed(self):
        bits = [0, 1, 1, 1, 1, 1]
        rule = RankRule(1, bits)
        bits[0] = 1
        self.same(rule((0, ((0, 0),))), 0)


class TestCounts(Case):
    def test_by_words(self):
        for seed in range(30):
            for many in (0, 1, 2):
                rule = random_rule(seed, many)
                self.same([even_count(rule), side_number(rule)], [even_by_words(rule), side_by_words(rule)])
        for seed in range(6):
            rule = LeafRule(seed % 3, (0, 1), seed)
            self.same([even_count(rule), side_number(rule)], [even_by_words(rule), side_by_words(rule)])

    def test_even_runs_by_the_side_number(self):
        found = set()
        for many in (0, 1, 2, 3):
            for seed in range((64, 64, 20, 1)[many]):
                rule = random_rule(seed, many)
                even, side = even_count(rule), side_number(rule)
                self.assertEqual((side % 2, 2 * even), (0, 2 - 3 * side))
                self.assertNotEqual(even, 0)
                found.add(even)
        self.assertGreater(len(found), 3)

    def test_all_rules_of_one_round(self):
        found = {}
        for bits in itertools.product((0, 1), repeat=6):
            rule = RankRule(1, bits)
            even = even_count(rule)
            self.assertIn(even, (1, -2))
            self.assertEqual(even_count(RankRule(1, [1 - bit for bit in bits])), even)
            few = tuple(bit for bit, form in zip(bits, rank_forms(1)) if len(form[1]) < 3)
            found.setdefault(few, set()).add(even)
        self.assertTrue(all(len(numbers) == 1 for numbers in found.values()))

    def test_exchanged_and_equal_at_few_names(self):
        for seed in range(12):
            chance = random.Random(seed)
            bits = [chance.randrange(2) for _ in rank_forms(2)]
            even = even_count(RankRule(2, bits))
            self.assertEqual(even_count(RankRule(2, [1 - bit for bit in bits])), even)
            other = [chance.randrange(2) if "2" in repr(form) else bit for bit, form in zip(bits, rank_forms(2))]
            self.assertEqual(even_count(RankRule(2, other)), even)

    def test_some(self):
        rule = RankRule(1, (0, 1, 1, 1, 1, 1))
        self.same([side_number(rule), even_count(rule)], [2, -2])
        self.same([side_number(RankRule(0, [1])), even_count(RankRule(0, [1]))], [0, 1])
        inputs = TableRule(0, [((0, 0), 0), ((1, 1), 1), ((2, 2), 0)])
        self.same([even_count(inputs), side_number(inputs)], [0, 1])

    def test_errors(self):
        self.fails(TooMany, {"word": "runs"}, even_count, LeafRule(4, (0, 1), 1))
        self.fails(TooMany, {"word": "runs"}, side_number, LeafRule(8, (0, 1), 1))
        self.assertRaises(Wrong, even_count, Raising(1))
        self.assertRaises(Wrong, side_number, Raising(0))
        self.fails(BadView, {}, even_count, TableRule(0, []))


if __name__ == "__main__":
    unittest.main()
