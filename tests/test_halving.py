"""Points 36, 37 and 38: halving, the half rule, runs whose first round waits."""

import itertools
import unittest

from helpers import NO_NUMBERS, NO_ROWS, Case, all_runs, line_web, parts, ring_web, rows_that_sit
from nowaittasks.corners import ChainPlan, chain_plan
from nowaittasks.errors import BadInputs, BadNumber, BadRun, BadView
from nowaittasks.halving import HalfRule, half_told, rounds_for
from nowaittasks.looks import waiting_rounds
from nowaittasks.rounds import neat_rounds, whole_rounds
from nowaittasks.rules import Rule, does, told
from nowaittasks.runs import Run
from nowaittasks.tasks import Task, agree_task
from nowaittasks.views import views_of
from nowaittasks.webs import Web


def line_plan(steps, inputs=(0, 1)):
    """Two inputs with the ends of a line of so many steps, at least two."""
    line = line_web(steps)
    task = Task(Web.of(inputs), line, [Web.of((0,)), Web.of((steps,)), line])
    return ChainPlan(task, (0, steps), [tuple(range(steps + 1))])


def round_plan(steps):
    """Three inputs in a triangle, with walks of so many steps that go round a ring, once over an edge and back."""
    ring = ring_web(3 * steps)
    task = Task(Web.of((2, 5, 6)), ring, [ring] * 7)
    walks = [tuple(range(steps + 1)), (0,) + tuple(range(3 * steps - 1, 2 * steps - 1, -1)),
             tuple(range(steps, 2 * steps + 1))]
    return ChainPlan(task, (0, steps, 2 * steps), walks)


def path_plan():
    """Inputs 1, 3, 4 in a line, so that 1 and 4 are no edge."""
    line = line_web(6)
    task = Task(Web.of((1, 3), (3, 4)), line, [Web.of((0,)), Web.of((3,)), Web.of((6,)), line, line])
    return ChainPlan(task, (0, 3, 6), [(0, 1, 2, 3), (3, 4, 5, 6)])


PLANS = [line_plan(2), line_plan(3), line_plan(4, (7, 9)), round_plan(2), round_plan(4), path_plan(),
         chain_plan(agree_task(2)), chain_plan(agree_task(3))]
# A walk that stays, goes to and fro, and comes to its end early.
WANDERING = ChainPlan(Task(Web.of((0, 1)), line_web(3), [Web.of((1,)), Web.of((3,)), line_web(3)]), (1, 3),
                      [(1, 0, 0, 1, 2, 3, 3)])


class Undone(Exception):
    """A round of halving that cannot be done."""


def held_by_words(plan, things):
    """What is held after a round of halving, straight from point 36; things are ("point", u), ("place", edge, p)."""
    different = [thing for place, thing in enumerate(things) if thing not in things[:place]]
    if len(different) == 1:
        return different[0]
    if len(different) == 2:
        for edge in plan.task.inputs.edges:
            last = len(plan.walk(*edge)) - 1
            places = {("point", edge[0]): 0, ("point", edge[1]): last}
            places.update({("place", edge, p): p for p in range(1, last)})
            if all(thing in places for thing in different):
                middle = (places[different[0]] + places[different[1]]) // 2
                return ("place", edge, middle) if middle else ("point", edge[0])
    raise Undone()


def view_by_words(plan, view, many, start=1):
    """What a view of many rounds holds; after the start rounds it is the least input seen."""
    if many == 0:
        return ("point", view[1])
    held = [view_by_words(plan, part, many - 1, start) for part in view[1]]
    return min(held) if many == start else held_by_words(plan, held)


def point_by_words(plan, view, many, start=1):
    """The point that a view tells, or Undone."""
    held = view_by_words(plan, view, many, start)
    if held[0] == "place":
        return plan.walk(*held[1])[held[2]]
    if held[1] not in plan.task.inputs.points:
        raise Undone()
    return plan.corner(held[1])


def agrees(case, rule, due, view):
    """The rule tells what due() tells, BadView() where that is Undone; whether it told."""
    try:
        point = due()
    except Undone:
        case.fails(BadView, {}, rule, view)
        case.fails(BadView, {}, rule.point_for, view)
        return False
    case.same(rule(view), point)
    case.same(rule.point_for(view), point)
    return True


class TestRoundsFor(Case):
    def test_least(self):
        self.same([rounds_for(steps) for steps in range(1, 18)],
                  [0, 1, 2, 2, 3, 3, 3, 3, 4, 4, 4, 4, 4, 4, 4, 4, 5])
        for steps in range(1, 300):
            self.same(rounds_for(steps), min(k for k in range(20) if 2 ** k >= steps))
        for k in (39, 60):
            self.same([rounds_for(2 ** k - 1), rounds_for(2 ** k), rounds_for(2 ** k + 1)], [k, k, k + 1])

    def test_errors(self):
        for steps in NO_NUMBERS + (0,):
            self.fails(BadNumber, {"word": "steps"}, rounds_for, steps)


class TestHalfRule(Case):
    def test_rounds(self):
        self.assertEqual(HalfRule.KIND, "half")
        for steps, many in ((2, 2), (3, 3), (4, 3), (5, 4), (8, 4), (9, 5)):
            rule = HalfRule(line_plan(steps))
            self.assertIsInstance(rule, Rule)
            self.same(rule.many, many)

    def test_views_by_words(self):
        seen = {True: 0, False: 0}
        for plan in PLANS + [WANDERING]:
            rule = HalfRule(plan)
            names = (0, 1, 2) if rule.many < 3 else (0, 1)
            for run in all_runs(names, rule.many, neat_rounds):
                for inputs in itertools.product(plan.task.inputs.points[:3], repeat=len(names)):
                    for view in views_of(inputs, run):
                        seen[agrees(self, rule, lambda: point_by_words(plan, view, rule.many), view)] += 1
        self.assertGreater(min(seen.values()), 100)

    def test_places_of_one_walk_and_of_unlike_walks(self):
        plan = round_plan(4)
        rule = HalfRule(plan)
        for rounds in itertools.product(list(neat_rounds((0, 1, 2))), repeat=2):
            run = Run([((0, (0, 1, 2)), (1, (1, 2)), (2, (2,))), *rounds])
            for inputs in itertools.product((2, 5, 6), repeat=3):
                for view in views_of(inputs, run):
                    agrees(self, rule, lambda: point_by_words(plan, view, 3), view)

    def test_things_that_are_not_on_one_walk(self):
        # Looks of a run are never such, but views may be told so.
        plan = round_plan(4)
        rule = HalfRule(plan)
        first = {u: (name, ((name, u),)) for name, u in enumerate((2, 5, 6))}
        second = [(0, (first[2],)), (0, (first[2], first[5])), (1, (first[5],)), (1, (first[5], first[6])),
                  (2, (first[6],)), (2, (first[2], first[6]))]
        told = {True: 0, False: 0}
        for one, other in itertools.permutations(second, 2):
            if one[0] < other[0]:
                view = (one[0], (one, other))
                told[agrees(self, rule, lambda: point_by_words(plan, view, 3), view)] += 1
        self.assertEqual(told, {True: 6, False: 6})

    def test_halves_lie_where_they_are_due(self):
        rule = HalfRule(line_plan(8))
        both, one, zero = ((0, 1),), ((1,), (0,)), ((0,), (1,))
        for later, due in (([one] * 3, (7, 8)), ([both] * 3, (4, 4)), ([zero] * 3, (0, 1)), ([zero, one, one], (3, 4)),
                           ([one, zero, one], (5, 6)), ([both, one, zero], (4, 4)), ([one, one, both], (7, 7))):
            run = Run.neat([one] + later)
            self.same(told(rule, (0, 1), run), ((0, due[0]), (1, due[1])))
            # Name 1 came first with the input 0, so both hold it.
            self.same(told(rule, (1, 0), run), ((0, 0), (1, 0)))

    def test_does_for_two_names(self):
        for plan in PLANS[:-1] + [WANDERING]:
            self.assertIsNone(does(plan.task, HalfRule(plan), 2))
            self.assertIsNone(does(plan.task, HalfRule(plan), 1))

    def test_three_names_may_fail(self):
        rule = HalfRule(chain_plan(agree_task(2)))
        run = Run.neat([((2,), (1,), (0,)), ((0, 1, 2),)])
        self.fails(BadView, {}, told, rule, (0, 1, 2), run)
        self.same(told(rule, (2, 1, 0), run), ((0, 0), (1, 0), (2, 0)))

    def test_rounds_that_cannot_be_done(self):
        plan = path_plan()
        rule = HalfRule(plan)
        first = ((0, (0, 1)), (1, (1,)))
        # Inputs that are no edge, and one that is no input, which is found at last if it is held alone.
        for inputs in ((1, 4), (1, 9), (9, 9), (0, 0), (0, 3)):
            for view in views_of(inputs, Run([first] + [((0, (0, 1)), (1, (0, 1)))] * 2)):
                self.fails(BadView, {}, rule, view)
        # A view within the view, in a round that it has long left, cannot be done.
        bad = views_of((1, 4), Run([first, ((0, (0, 1)), (1, (0, 1)))]))[0]
        self.fails(BadView, {}, rule, (0, (bad,)))
        good = (1, ((1, ((1, 1),)),))
        self.fails(BadView, {}, rule, (0, (bad, good)))
        self.fails(BadView, {}, rule, (1, (bad, good)))
        # An input that is none of I may be seen, as long as it is not held.
        self.same(rule((0, ((0, ((0, ((0, 3), (1, 7))),)),))), 3)
        self.fails(BadView, {}, rule, (0, ((0, ((0, ((0, 3), (1, 0))),)),)))

    def test_no_views_of_its_rounds(self):
        rule = HalfRule(line_plan(2))
        for thing in (None, (0, 0), (0, ((0, 0),)), (0, [(0, ((0, 0),))]), (0, ((0, ((0, ((0, 0),)),)),))):
            self.fails(BadView, {}, rule, thing)

    def test_views_that_unlike_names_saw_in_unlike_ways(self):
        # Views that occur in no run are halved as they stand.
        plan = line_plan(2)
        view = (0, ((0, ((0, 0),)), (1, ((0, 1), (1, 1)))))
        self.same(HalfRule(plan)(view), point_by_words(plan, view, 2))
        self.same(HalfRule(plan)(view), 1)

    def test_no_edge(self):
        web = Web((), points=(3, 4))
        rule = HalfRule(ChainPlan(Task(Web((), points=(5, 8)), web, [web, web]), (4, 3), []))
        self.same([rule.many, told(rule, (8, 8), Run.neat([[(0, 1)]] * 2))], [2, ((0, 3), (1, 3))])


class TestOneStops(Case):
    def waiting_runs(self, names, many):
        """All runs of many rounds over some of these names, the first of which waits, with any stops."""
        for took in parts(names):
            rows = list(waiting_rounds(took)) if len(took) > 1 else [((took[0], (took[0],)),)]
            # Some may stop ahead of the second round.
            for row in rows:
                for left in parts(took):
                    for later in all_runs(left, many - 1, whole_rounds):
                        yield Run([row] + list(later.rounds))

    def test_points_told_sit(self):
        for plan, names in ((chain_plan(agree_task(2)), (0, 1, 2)), (round_plan(2), (0, 2, 3)), (line_plan(2), (1, 4)),
                            (path_plan(), (0, 1)), (round_plan(4), (0, 1))):
            rule, runs = HalfRule(plan), 0
            for run in self.waiting_runs(names, rule.many):
                runs += 1
                rows = rows_that_sit(plan.task.inputs, len(run.names))
                for row in rows if runs % 7 == 0 or len(rows) < 10 else rows[runs % 5::5]:
                    inputs = [99] * 5
                    for name, entry in zip(run.names, row):
                        inputs[name] = entry
                    points = half_told(plan, inputs, run)
                    self.same(points, told(rule, inputs, run))
                    self.assertEqual(tuple(name for name, _ in points), run.left)
                    room = plan.task.room(row)
                    self.assertTrue(room.sits([point for _, point in points]))
            self.assertGreater(runs, 15)

    def test_five_names(self):
        plan = round_plan(3)
        names = (0, 1, 2, 3, 4)
        all_see = tuple((name, names) for name in names)
        for row in waiting_rounds(names):
            run = Run([row, all_see]) + Run.neat([((4,), (0, 2), (1, 3))])
            for inputs in ((2, 5, 6, 5, 2), (6, 6, 2, 5, 5), (6, 5, 5, 6, 2), (5, 6, 5, 5, 6)):
                points = half_told(plan, inputs, run)
                self.same(points, told(HalfRule(plan), inputs, run))
                self.assertTrue(plan.task.room(inputs).sits([point for _, point in points]))

    def test_many_rounds(self):
        steps = 60
        rounds = [((0, (0, 1, 2)), (1, (1, 2)), (2, (1, 2)))]
        rounds += [((0, (0, 1)), (1, (0, 1)), (2, (0, 1, 2)))] + [((0, (0, 1, 2)), (1, (1,)), (2, (1, 2)))] * 5
        run = Run(rounds)
        self.same(half_told(line_plan(steps), (0, 1, 1), run), ((0, 30), (1, 30), (2, 30)))
        self.same(half_told(line_plan(steps), (1, 0, 0), run), ((0, 0), (1, 0), (2, 0)))

    def test_errors_in_order(self):
        plan = path_plan()
        due = Run.neat([((0, 1),)] * 3)
        late = Run([((0, (0,)), (1, (0, 1)), (2, (0, 1, 2)))] + [((0, (0,)),)] * 2)
        for many in (0, 1, 2, 4):
            self.fails(BadRun, {"place": -1}, half_told, plan, "no", Run([((0, (0,)),)] * many, names=(0,)))
        self.fails(BadRun, {"place": 0}, half_told, plan, "no", late)
        for inputs in NO_ROWS + ((-1, 1), (True, 1), (1, None), (1.0, 1)):
            self.fails(BadInputs, {"place": -1}, half_told, plan, inputs, due)
        for inputs in ((), (1,), [3]):
            self.fails(BadInputs, {"place": -2}, half_told, plan, inputs, due)
        for inputs in ((1, 4), (9, 9), (0, 1), [1, 4]):
            self.fails(BadInputs, {"place": -1}, half_told, plan, inputs, due)
        self.fails(BadInputs, {"place": -2}, half_told, plan, (9, 1, 3), Run([((3, (3,)),)] * 3))
        self.same(half_told(plan, (9, 9, 9, 3), Run([((3, (3,)),)] * 3)), ((3, 3),))

    def test_one_name_waits(self):
        plan = line_plan(2)
        self.same(half_told(plan, (1,), Run([((0, (0,)),)] * 2)), ((0, 2),))
        stops = Run([((0, (0,)), (1, (0, 1))), ((1, (1,)),)])
        self.same(half_told(plan, (0, 1), stops), ((1, 0),))


class TestWaitingLinks(Case):
    def test_all_pairs_are_linked(self):
        for names, many, points in (((0, 1), 0, (3,)), ((0, 1), 0, (3, 8)), ((0, 1), 1, (3, 8)), ((0, 1), 2, (3, 8)),
                                    ((0, 1), 3, (3, 8)), ((0, 1, 2), 0, (3, 8)), ((0, 1, 2), 1, (3, 8)),
                                    ((0, 1, 2), 2, (3, 8)), ((0, 1, 2), 1, (3,)), ((0, 1, 2, 3), 1, (3, 8))):
            group = {}

            def head(thing):
                while group.setdefault(thing, thing) != thing:
                    thing = group[thing]
                return thing

            pairs = 0
            for inputs in itertools.product(points, repeat=len(names)):
                for rounds in itertools.product(list(waiting_rounds(names)), repeat=many):
                    pairs += 1
                    for view in views_of(inputs, Run(rounds, names=names)):
                        group[head(view)] = head((inputs, rounds))
            self.assertEqual(len({head(thing) for thing in list(group)}), 1)
            self.assertEqual(pairs, len(points) ** len(names) * len(list(waiting_rounds(names))) ** many)

    def test_two_names_are_linked_by_any_rounds_three_by_waiting_ones(self):
        self.same(list(waiting_rounds((0, 1))), list(whole_rounds((0, 1))))
        self.assertEqual(len(list(waiting_rounds((0, 1, 2)))), 10)


if __name__ == "__main__":
    unittest.main()
