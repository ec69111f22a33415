"""Point 7: views."""

import itertools
import random
import unittest

from helpers import NO_NUMBERS, NO_ROWS, Case
from nowaittasks.errors import BadInputs, BadView
from nowaittasks.rounds import neat_rounds, round_of, whole_rounds
from nowaittasks.runs import Run, neat_runs
from nowaittasks.views import depth, is_alone, seen_inputs, seen_names, views_of

NO_VIEWS = (
    None, 3, "01", (), (0,), (0, 1, 2), [0, 1], (0, -1), (-1, 0), (True, 0), (0, False), (0, None), (0, ()),
    (0, [(0, 1)]), [0, ((0, 1),)], (0, ([0, 1],)), (0, ((1, 5),)), (0, ((0, 1), (0, 1))), (0, ((1, 5), (0, 5))),
    (0, ((0, 1), (1, ((1, 2),)))), (0, ((0, ((0, 1),)), (1, 2))), (0, ((0, 1), 5)), (0, ((0, 1, 2),)), (0, (0, 1)),
    (0, ((0, ((1, 2),)),)), (0, ((0, ((0, True),)),)), (-1, ((-1, 0),)), (True, ((1, 0),)), (1, ((True, 0), (1, 0))),
    (0, ((0, ()),)), (0, ((0, 1), (1, 2.0))), (0, {0: 1}), ({}, 0), ([], ((0, 0),)), (0, ((0, 0), ({}, 0))),
    (0, (((0, 0),),)), (0, ((),)), (0, ((0, 0), ())), (0, ((0, ((0, 0), ())),)), (0, ((0,),)), (0, ((0, 0), (1,))),
)


def random_run(seed):
    """A run in which names stop, its rounds not all neat."""
    chance = random.Random(seed)
    names = sorted(chance.sample(range(6), chance.choice((1, 2, 3, 4))))
    rounds = []
    for _ in range(chance.randrange(4)):
        names = sorted(chance.sample(names, max(1, len(names) - chance.choice((0, 0, 1)))))
        rounds.append(chance.choice(list(chance.choice((neat_rounds, whole_rounds))(names))))
    return Run(rounds, names=names if not rounds else ())


def view_by_words(name, many, inputs, run):
    """The view after many rounds, straight from its definition."""
    if many == 0:
        return (name, inputs[name])
    look = dict(run.rounds[many - 1])[name]
    return (name, tuple(view_by_words(other, many - 1, inputs, run) for other in look))


def pairs_in(view):
    """The pairs (name, input) within a view."""
    if isinstance(view[1], int):
        return [view]
    return [pair for part in view[1] for pair in pairs_in(part)]


class TestViewsOf(Case):
    def test_example(self):
        self.same(views_of((4, 7), Run.neat([((0, 1),), ((0,), (1,))])),
                  ((0, ((0, ((0, 4), (1, 7))),)), (1, ((0, ((0, 4), (1, 7))), (1, ((0, 4), (1, 7)))))))

    def test_no_rounds(self):
        self.same(views_of([9, 8, 7, 6], Run((), names=(3, 0))), ((0, 9), (3, 6)))

    def test_runs_against_the_definition(self):
        for seed in range(80):
            run = random_run(seed)
            inputs = [seed % 5, 3, 0, 3, 8, 1, 4]
            due = tuple(view_by_words(name, len(run), inputs, run) for name in run.left)
            self.same(views_of(inputs, run), due)
            self.same(views_of(tuple(inputs), run), due)

    def test_inputs_of_other_names_do_not_count(self):
        run = Run.neat([[(3,), (1,)], [(1,)]])
        self.same(views_of((0, 5, 0, 6), run), views_of([7, 5, 9, 6, 2], run))

    def test_unlike_runs_have_unlike_views(self):
        for names, many in (((0, 1), 3), ((0, 1, 2), 2), ((0, 1, 2, 3), 1), ((1, 4), 2)):
            rows = [views_of((5, 5, 5, 5, 5), run) for run in neat_runs(names, many)]
            self.assertEqual(len(set(rows)), len(rows))

    def test_the_views_of_the_stopped_may_be_filled_up(self):
        for seed in range(80):
            run = random_run(seed)
            filled = []
            for row in run.rounds:
                looks = dict(row)
                filled.append(tuple((name, looks.get(name, run.names)) for name in run.names))
            full = Run(filled, names=run.names)
            inputs = (1, 1, 2, 3, 5, 8)
            views = {view[0]: view for view in views_of(inputs, full)}
            self.same(views_of(inputs, run), tuple(views[name] for name in run.left))
            self.assertTrue(full.full)
            if run.tidy:
                self.assertTrue(full.tidy)

    def test_many_rounds(self):
        run = Run.neat([[(1,), (0,), (2,), (3,), (4,)]] * 40)
        view = views_of((3, 4, 5, 6, 7), run)[4]
        self.same((depth(view), seen_names(view), seen_inputs(view)), (40, (0, 1, 2, 3, 4), (3, 4, 5, 6, 7)))
        lone = views_of((3, 4, 5, 6, 7), run)[1]
        self.same((depth(lone), is_alone(lone), seen_inputs(lone)), (40, True, (4,)))

    def test_bad_inputs(self):
        run = Run.neat([[(0, 2)], [(0,)]])
        for thing in NO_ROWS:
            self.fails(BadInputs, {"place": -1}, views_of, thing, run)
        for thing in NO_NUMBERS:
            self.fails(BadInputs, {"place": -1}, views_of, (thing,), run)
            self.fails(BadInputs, {"place": -1}, views_of, (0, 1, 2, 3, thing), run)
        for inputs in ((), [], (0,), (0, 1)):
            self.fails(BadInputs, {"place": -2}, views_of, inputs, run)
        self.fails(BadInputs, {"place": -2}, views_of, (0, 1), Run((), names=(2,)))

    def test_inputs_do_not_change(self):
        inputs = [1, 2, 3]
        views_of(inputs, Run.neat([[(2,), (1, 0)]]))
        self.assertEqual(inputs, [1, 2, 3])


class TestViews(Case):
    def test_seen_and_depth(self):
        for seed in range(60):
            run = random_run(seed)
            for view in views_of((3, 3, 1, 4, 1, 5), run):
                pairs = pairs_in(view)
                self.same(seen_names(view), tuple(sorted({name for name, _ in pairs})))
                self.same(seen_inputs(view), tuple(sorted({entry for _, entry in pairs})))
                self.same(is_alone(view), len({name for name, _ in pairs}) == 1)
                self.same(depth(view), len(run))

    def test_views_that_occur_in_no_run(self):
        view = (1, ((0, ((0, 5),)), (1, ((0, 7), (1, 6)))))
        self.same((seen_names(view), seen_inputs(view), depth(view)), ((0, 1), (5, 6, 7), 2))
        view = (0, ((0, ((0, 5), (2, 1))), (1, ((0, 5), (1, 2), (3, 9))), (2, ((2, 4),))))
        self.same((seen_names(view), seen_inputs(view), depth(view)), ((0, 1, 2, 3), (1, 2, 4, 5, 9), 2))

    def test_alone(self):
        self.same(is_alone((4, 9)), True)
        self.same(is_alone((4, ((4, ((4, 9),)),))), True)
        self.same(is_alone((4, ((3, 9), (4, 9)))), False)
        self.same(is_alone((4, ((4, ((3, 9), (4, 9))),))), False)
        self.same(seen_names((4, ((4, 9),))), (4,))

    def test_what_is_no_view(self):
        for ask in (seen_names, seen_inputs, is_alone, depth):
            for thing in NO_VIEWS:
                self.fails(BadView, {}, ask, thing)

    def test_many_pairs(self):
        parts = tuple((name, name % 7) for name in range(2000))
        view = (1999, parts)
        self.same((depth(view), len(seen_names(view)), seen_inputs(view)), (1, 2000, (0, 1, 2, 3, 4, 5, 6)))

    def test_a_small_change_makes_no_view(self):
        view = views_of((1, 2, 3), Run.neat([[(0,), (1, 2)], [(2,), (0, 1)]]))[0]
        self.assertEqual(depth(view), 2)
        name, parts = view
        for wrong in itertools.permutations(parts):
            if wrong != parts:
                self.fails(BadView, {}, depth, (name, wrong))
        self.fails(BadView, {}, depth, (name, parts + parts[-1:]))
        self.fails(BadView, {}, depth, (name, parts[1:]))
        self.fails(BadView, {}, depth, (name, parts[:-1] + ((2, 3),)))


class TestRounds(Case):
    def test_round_of_looks_is_what_is_seen(self):
        row = round_of([[1], [0]])
        self.same(views_of((5, 6), Run([row])), ((0, ((0, 5), (1, 6))), (1, ((1, 6),))))


if __name__ == "__main__":
    unittest.main()
