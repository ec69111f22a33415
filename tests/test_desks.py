"""Points 136 to 145: desks, deeds and back, trials, verdicts, glued tasks."""

import itertools
import random
import unittest

from helpers import NO_ROWS, Case, line_web, ring_web
from nowaittasks.corners import chain_plan, corner_rows
from nowaittasks.desks import Desk, Trial, glued
from nowaittasks.errors import BadInputs, BadNumber, BadRow, BadTask, TaskError, TooMany
from nowaittasks.loops import loop_room
from nowaittasks.numbers import is_one_ring
from nowaittasks.pictures import Picture
from nowaittasks.shifted import shifted_task
from nowaittasks.sumplans import has_sums, sum_plan
from nowaittasks.tasks import Task, agree_task
from nowaittasks.told_rooms import told_bars, told_plan
from nowaittasks.twos import least_two
from nowaittasks.webs import Web
from test_borders import NO_HOURS
from test_corners import many_points
from test_folding import EIGHT
from test_sumplans import FULL, ODD_TASK, SIX, random_small_task
from test_told_rooms import RINGS, TASKS, ring_task, some_cells

LINE = Task(Web.of((0, 1)), line_web(4), [Web.of((0,)), Web.of((4,)), line_web(4)])
NO_DEEDS = (None, 3, "back", (), ("back",), ("back", (), ()), ("back", None), ("back", (1,)), ("great", (1,)), ("widen", ((0,),)),
            ("widen", ((0,), (1,), (2,))), ("drop", ()), ("drop", ((0,), (1,))), ("rename", ()), ("rename", ((), ())),
            ("Back", ()), ("undo", ()), (None, ()), (0, ()), (("back",), ()), (["back"], ()), {"back": (), 1: 2}, ("drop", "0"))


class Words:
    """A desk as points 137 to 139 tell it: it is remade from the first task and the deeds that stand."""

    def __init__(self, task, hours=0):
        self.first, self.hours, self.deeds = task, hours, []

    def task(self):
        """The first task changed by the deeds that stand."""
        found = self.first
        for word, arguments in self.deeds:
            found = {"widen": widened, "drop": dropped, "rename": renamed, "great": greater}[word](found, *arguments)
        return found


def widened(task, cell, row):
    """The task with the set of a row and its parts in the rooms of a cell and of those that hold it."""
    fresh = Web([row])
    rooms = [room | fresh if set(cell) <= set(other) else room for other, room in zip(task.inputs.cells, task.rooms)]
    return Task(task.inputs, task.outputs | fresh, rooms)


def dropped(task, cell):
    """The task without a cell and those that hold it."""
    kept = [other for other in task.inputs.cells if not set(cell) <= set(other)]
    return Task(Web(kept), task.outputs, [task.room(other) for other in kept])


def renamed(task, pairs):
    """The task with its points called anew, all at once."""
    new = dict(pairs)

    def called(web):
        return Web([tuple(new.get(point, point) for point in cell) for cell in web.cells])

    return Task(task.inputs, called(task.outputs), [called(room) for room in task.rooms])


def greater(task):
    """The shifted task over one great layer."""
    return shifted_task(task, Picture(task.inputs).great())


def verdicts_by_words(task, hours):
    """The verdicts, straight from point 140."""
    rooms = [task.room(cell) for cell in task.inputs.triangles]
    if all(room.joined and is_one_ring(room) for room in rooms):
        whole = "plan" if any(sum_plan(task, corners, 0) for corners in corner_rows(task)) else "none"
    else:
        whole = "untold"
    return chain_plan(task) is not None, has_sums(task, hours), least_two(task), whole


def random_deed(chance, task):
    """A deed that can be done, as a word and its arguments."""
    word = chance.choice(("widen", "widen", "drop", "rename", "great"))
    if word == "great" and len(task.inputs) > 7:
        word = "rename"
    if word == "widen":
        cell = list(chance.choice(task.inputs.cells))
        points = sorted(set(task.outputs.points) | {chance.randrange(9)})
        return word, (cell + cell[:chance.randrange(2)], chance.sample(points, min(len(points), chance.randint(1, 3))))
    if word == "drop":
        return word, (chance.choice(task.inputs.cells)[::-1],)
    if word == "rename":
        old = chance.sample(task.outputs.points, chance.randrange(min(4, len(task.outputs.points)) + 1))
        return word, (list(zip(old, chance.sample(old, len(old)))),)
    return word, ()


def told_deed(word, arguments):
    """The deed as a desk tells it."""
    if word == "rename":
        return word, (tuple(sorted(tuple(pair) for pair in arguments[0])),)
    return word, tuple(tuple(sorted(set(row))) for row in arguments)


def do(desk, word, arguments):
    """Do a deed by its method."""
    return getattr(desk, word)(*arguments)


class TestDeeds(Case):
    def test_by_words(self):
        done = {}
        for seed in range(120):
            chance = random.Random(seed)
            words = Words(random_small_task(seed))
            desk = Desk(words.first)
            for _ in range(8):
                word, arguments = random_deed(chance, desk.now_task)
                if chance.random() < 0.25 and words.deeds:
                    self.assertIs(desk.back(), desk)
                    words.deeds.pop()
                    word = "back"
                elif word == "drop" and all(set(arguments[0]) <= set(cell) for cell in desk.now_task.inputs.cells):
                    self.fails(BadTask, {"word": "inputs", "cell": ()}, desk.drop, arguments[0])
                    word = "not dropped"
                else:
                    self.assertIs(do(desk, word, arguments), desk)
                    words.deeds.append(told_deed(word, arguments))
                done[word] = done.get(word, 0) + 1
                self.assertEqual(desk.now_task, words.task())
                self.same(desk.deeds, tuple(words.deeds))
            while words.deeds:
                words.deeds.pop()
                self.assertEqual(desk.back().now_task, words.task())
            self.fails(BadNumber, {"word": "deeds"}, desk.back)
        self.assertTrue(len(done) == 6 and min(done.values()) > 2, done)

    def test_new_desk(self):
        desk = Desk(LINE)
        self.same([desk.deeds, desk.hours], [(), 0])
        self.assertIs(type(desk.now_task), Task)
        self.assertEqual(desk.now_task, LINE)
        for hours in (0, 2, 7, 10 ** 9):
            self.same(Desk(LINE, hours=hours).hours, hours)
        for hours in NO_HOURS:
            with self.assertRaises(BadNumber) as caught:
                Desk(LINE, hours=hours)
            self.assertEqual(caught.exception.word, "hours")

    def test_hours(self):
        desk = Desk(ODD_TASK)
        self.assertIsNone(desk.set_hours(3))
        self.same([desk.hours, desk.sums()], [3, True])
        desk.hours = 2
        self.same([desk.hours, desk.sums()], [2, False])
        desk.hours = 0
        self.same([desk.hours, desk.sums()], [0, False])
        desk.set_hours(5)
        desk.great().back()
        self.same([desk.hours, desk.deeds], [5, ()])
        for hours in NO_HOURS:
            self.fails(BadNumber, {"word": "hours"}, desk.set_hours, hours)
            self.fails(BadNumber, {"word": "hours"}, setattr, desk, "hours", hours)
            self.same(desk.hours, 5)

    def test_widen(self):
        desk = Desk(LINE)
        self.assertIs(desk.widen([1], [9, 2, 4]), desk)
        task = desk.now_task
        self.assertEqual(task.outputs, line_web(4) | Web.of((2, 4, 9)))
        self.assertEqual(task.rooms, (Web.of((0,)), Web.of((2, 4, 9)), line_web(4) | Web.of((2, 4, 9))))
        desk.widen((1, 0, 1), (5,))
        self.assertEqual(desk.now_task.rooms, task.rooms[:2] + (task.rooms[2] | Web.of((5,)),))
        self.same(desk.deeds, (("widen", ((1,), (2, 4, 9))), ("widen", ((0, 1), (5,)))))
        # What is there already changes nothing, and is a deed all the same.
        desk.widen((0,), (0,))
        self.same(desk.deeds[-1], ("widen", ((0,), (0,))))
        self.assertEqual(desk.now_task, desk.back().now_task)

    def test_drop(self):
        desk = Desk(agree_task(2))
        self.assertIs(desk.drop([2, 1, 2]), desk)
        self.assertEqual(desk.now_task.inputs, Web.of((0, 1), (0, 2)))
        self.assertEqual(desk.now_task.outputs, agree_task(2).outputs)
        desk.drop((0,))
        self.assertEqual(desk.now_task.inputs, Web.of((1,), (2,)))
        desk.drop((1,))
        self.assertEqual(desk.now_task.rooms, (Web.of((2,)),))
        self.fails(BadTask, {"word": "inputs", "cell": ()}, desk.drop, (2,))
        self.same(desk.deeds, (("drop", ((1, 2),)), ("drop", ((0,),)), ("drop", ((1,),))))
        self.assertEqual(desk.back().back().back().now_task, agree_task(2))

    def test_rename(self):
        desk = Desk(LINE)
        self.assertIs(desk.rename([[3, 0], (0, 3), (4, 4)]), desk)
        self.assertEqual(desk.now_task.outputs, Web.of((3, 1), (1, 2), (2, 0), (0, 4)))
        self.assertEqual(desk.now_task.rooms[:2], (Web.of((3,)), Web.of((4,))))
        self.same(desk.deeds, (("rename", (((0, 3), (3, 0), (4, 4)),)),))
        before = desk.now_task
        desk.rename([])
        self.same([desk.deeds[-1], desk.now_task == before], [("rename", ((),)), True])
        # Round a ring of three points, all at once.
        desk.rename(((0, 1), (1, 2), (2, 0)))
        self.assertEqual(desk.now_task.outputs, Web.of((3, 2), (2, 0), (0, 1), (1, 4)))
        self.assertEqual(desk.rename(((2, 1), (1, 0), (0, 2))).now_task, before)

    def test_great(self):
        desk = Desk(agree_task(3))
        self.assertIs(desk.great(), desk)
        self.same(desk.deeds, (("great", ()),))
        self.assertEqual(desk.now_task, shifted_task(agree_task(3), Picture(FULL).great()))
        alone = Desk(Task(Web.of((4,)), FULL, [FULL])).great()
        self.assertEqual(alone.now_task.inputs, Web.of((4,)))

    def test_errors_of_cells(self):
        desk = Desk(agree_task(2)).drop((1, 2))
        for cell in NO_ROWS + ((), (1, 2), (0, 1, 2), (3,), (0, 3), (True,), (0, None), (-1,), ((0,),)):
            self.fails(BadInputs, {"place": -1}, desk.widen, cell, None)
            self.fails(BadInputs, {"place": -1}, desk.drop, cell)
        self.same(desk.deeds, (("drop", ((1, 2),)),))

    def test_errors_of_widen(self):
        desk = Desk(LINE)
        for row in NO_ROWS + ((), (0, 0), (0, 1, 1), (0, 1, 2, 3), (-1,), (True, 2), (0, None), (0, 1.0), ((0,),), ("0",)):
            self.fails(BadRow, {"place": -1}, desk.widen, (0,), row)
        self.assertEqual([desk.now_task, desk.deeds], [LINE, ()])

    def test_errors_of_rename(self):
        desk = Desk(LINE)
        for pairs in NO_ROWS:
            self.fails(BadRow, {"place": -1}, desk.rename, pairs)
        for entry in NO_ROWS + ((), (1,), (1, 2, 3), (1, 9), (9, 1), (1, True), (True, 1), (1, None), (1, -1), ((1,), 2), "12",
                               (0, 2), (2, 4)):
            self.fails(BadRow, {"place": 1}, desk.rename, ((0, 4), entry, None))
        for pairs in (((0, 1),), ((0, 1), (1, 2)), [(0, 1), (1, 2), (2, 3)], ((0, 1), (2, 0))):
            self.fails(BadRow, {"place": -1}, desk.rename, pairs)
        self.fails(BadRow, {"place": 0}, desk.rename, ((0, 5), (5, 0)))
        self.assertEqual([desk.now_task, desk.deeds], [LINE, ()])

    def test_errors_change_nothing(self):
        desk = Desk(LINE, hours=4).widen((0,), (3,)).great()
        kept = (desk.now_task, desk.deeds, desk.hours)
        for error, word, arguments in ((BadInputs, "widen", ((9,), (1,))), (BadRow, "widen", ((0,), ())), (BadInputs, "drop", ((),)),
                                       (BadRow, "rename", (((0, 1),),)), (BadRow, "rename", (None,))):
            self.fails(error, {"place": -1}, do, desk, word, arguments)
            self.assertEqual((desk.now_task, desk.deeds, desk.hours), kept)

    def test_stays_when_rows_are_changed(self):
        cell, row, pairs = [0], [3, 1], [[0, 4], [4, 0]]
        desk = Desk(LINE).widen(cell, row).rename(pairs)
        kept = (desk.now_task, desk.deeds)
        pairs[0].clear()
        for thing in (cell, row, pairs):
            thing.clear()
        self.assertEqual((desk.now_task, desk.deeds), kept)
        self.same(desk.deeds, (("widen", ((0,), (1, 3))), ("rename", (((0, 4), (4, 0)),))))

    def test_as_many_deeds_as_told(self):
        desk = Desk(LINE)
        for place in range(60):
            desk.rename(((0, 4), (4, 0)) if place % 2 else ())
        self.same([len(desk.deeds), desk.now_task == LINE], [60, True])
        for _ in range(60):
            desk.back()
        self.same(desk.deeds, ())


class TestTrials(Case):
    def test_back_as_before(self):
        desk = Desk(LINE).widen((0,), (1,))
        kept = (desk.now_task, desk.deeds)
        trial = desk.trial()
        self.assertIs(type(trial), Trial)
        self.assertIs(trial.desk, desk)
        with trial as held:
            self.assertIs(held, desk)
            held.great().drop((0,)).back().back().back()
            self.same(desk.deeds, ())
            self.assertEqual(desk.now_task, LINE)
            held.hours = 6
            held.rename(((0, 4), (4, 0)))
        self.assertEqual((desk.now_task, desk.deeds), kept)
        self.same(desk.hours, 6)

    def test_an_error_goes_on(self):
        desk = Desk(LINE)
        for error in (BadInputs, KeyError, ZeroDivisionError):
            with self.assertRaises(error):
                with desk.trial() as held:
                    held.great()
                    held.set_hours(7)
                    held.drop((9,)) if error is BadInputs else None
                    raise error()
            self.assertEqual([desk.now_task, desk.deeds, desk.hours], [LINE, (), 7])

    def test_within_each_other(self):
        desk = Desk(LINE)
        with desk.trial():
            desk.great()
            one = desk.deeds
            with desk.trial() as inner:
                inner.back()
                inner.widen((0,), (7,))
                self.same(desk.deeds, (("widen", ((0,), (7,))),))
            self.same(desk.deeds, one)
            desk.rename(())
        self.assertEqual([desk.now_task, desk.deeds], [LINE, ()])

    def test_one_after_the_other(self):
        desk = Desk(LINE)
        trial = desk.trial()
        for place in range(3):
            desk.rename(())
            with trial:
                desk.back()
            self.same(len(desk.deeds), place + 1)
        other = Trial(desk)
        self.assertIs(other.desk, desk)
        with other:
            desk.great()
        self.same(desk.deeds, (("rename", ((),)),) * 3)

    def test_left_early(self):
        desk = Desk(LINE)

        def leave():
            with desk.trial() as held:
                held.great()
                return len(held.deeds)

        self.same([leave(), desk.deeds], [1, ()])
        for _ in range(2):
            with desk.trial() as held:
                held.great()
                continue
        self.assertEqual(desk.now_task, LINE)


class TestTried(Case):
    def test_by_words(self):
        for seed in range(40):
            chance = random.Random(seed)
            desk = Desk(random_small_task(seed), hours=chance.choice((0, 2, 3)))
            for _ in range(2):
                word, arguments = random_deed(chance, desk.now_task)
                do(desk, word, arguments) if word in ("widen", "rename") else None
            other, deeds, due = Desk(desk.now_task, hours=desk.hours), [], []
            for _ in range(3):
                word, arguments = random_deed(chance, other.now_task)
                if word in ("widen", "rename"):
                    do(other, word, arguments)
                    deeds.append(chance.choice(((word, arguments), [word, list(arguments)])))
                    due.append(other.verdicts())
            kept = (desk.now_task, desk.deeds, desk.hours)
            self.same(desk.tried(deeds), tuple(due))
            self.same(desk.tried(tuple(deeds)), tuple(due))
            self.assertEqual((desk.now_task, desk.deeds, desk.hours), kept)

    def test_back_takes_deeds_of_this_desk(self):
        desk = Desk(agree_task(2)).widen((0, 1, 2), (0, 1, 2)).rename(())
        self.same(desk.tried([("back", ()), ("back", []), ["drop", ((0, 1, 2),)], ("back", ())]),
                  ((True, True, 0, "plan"), (True, False, 0, "none"), (True, True, 0, "plan"), (True, False, 0, "none")))
        self.same(len(desk.deeds), 2)
        self.fails(BadNumber, {"word": "deeds"}, desk.tried, [("back", ())] * 3)
        self.same([desk.tried(()), desk.tried([]), len(desk.deeds)], [(), (), 2])
        due = Desk(desk.now_task).great().verdicts()
        self.same(desk.tried([("great", ()), ("back", ()), ("great", [])]), (due, desk.verdicts(), due))
        far = Desk(LINE)
        self.same(far.tried([("great", ()), ["great", []], ("back", ())]),
                  ((True, True, 1, "plan"), (True, True, 0, "plan"), (True, True, 1, "plan")))
        self.same([far.verdicts(), far.great().verdicts()], [(True, True, 2, "plan"), (True, True, 1, "plan")])

    def test_errors(self):
        desk = Desk(LINE)
        for deeds in NO_ROWS:
            self.fails(BadRow, {"place": -1}, desk.tried, deeds)
        for entry in NO_DEEDS:
            self.fails(BadRow, {"place": 0}, desk.tried, (entry,))
            self.fails(BadRow, {"place": 1}, desk.tried, [("great", ()), entry, ("back", ())])
        # An entry is looked at when its turn comes.
        self.fails(BadInputs, {"place": -1}, desk.tried, (("drop", ((9,),)), None))
        self.fails(BadRow, {"place": -1}, desk.tried, (("rename", (None,)), None))
        self.fails(BadTask, {"word": "inputs", "cell": ()}, desk.tried,
                   (("drop", ((0,),)), ("drop", ((1,),)), ("undo", ())))
        self.fails(BadRow, {"place": 1}, desk.tried, (("drop", ((0,),)), ("undo", ()), ("drop", ((1,),))))
        self.assertEqual([desk.now_task, desk.deeds], [LINE, ()])

    def test_errors_of_verdicts(self):
        desk = Desk(many_points(501))
        self.fails(TooMany, {"word": "corners"}, desk.tried, [("rename", ((),))])
        self.same(desk.tried(()), ())


class TestVerdicts(Case):
    def check(self, desk):
        """The verdicts, alone and in a row, are those of point 140, and in the row of point 144."""
        due = verdicts_by_words(desk.now_task, desk.hours)
        self.same(desk.verdicts(), due)
        self.same((desk.chains(), desk.sums(), desk.two(), desk.whole()), due)
        chains, sums, two, whole = due
        if whole == "plan":
            self.assertTrue(all(has_sums(desk.now_task, hours) for hours in (0, 2, 3, 8)))
        if whole == "none":
            self.assertFalse(has_sums(desk.now_task, 0))
        self.assertTrue(chains or not sums)
        self.assertEqual(chains, two is not None)
        return due

    def test_by_words(self):
        seen = {}
        for seed in range(250):
            chance = random.Random(seed)
            task = random_small_task(seed) if seed % 2 else ring_task(seed)
            if task is not None:
                due = self.check(Desk(task, hours=chance.choice((0, 2, 3, 10 ** 9))))
                seen[due[0], due[1], due[3]] = seen.get((due[0], due[1], due[3]), 0) + 1
        self.assertTrue({(True, True, "plan"), (True, False, "none"), (False, False, "none"), (True, True, "untold")}
                        <= set(seen), seen)

    def test_some(self):
        for task, hours, due in ((agree_task(1), 0, (False, False, None, "untold")), (agree_task(2), 0, (True, False, 0, "none")),
                                 (agree_task(3), 0, (True, True, 0, "plan")), (ODD_TASK, 3, (True, True, 0, "none")),
                                 (ODD_TASK, 2, (True, False, 0, "none")), (LINE, 0, (True, True, 2, "plan")),
                                 (SIX, 5, (True, False, 1, "none")), (loop_room(2, 2).loop_task, 0, (True, True, 1, "plan"))):
            self.same(self.check(Desk(task, hours=hours)), due)

    def test_none_is_barred_at_some_hours(self):
        # Point 144: if whole is none, sums is False for some hours of at least 2, those of one bar if the corners are one.
        for task in TASKS[:150]:
            desk = Desk(task)
            if desk.whole() == "none":
                bars = told_bars(task)
                if len(bars) == 1:
                    desk.hours = bars[0][1].hours
                    self.assertIs(desk.sums(), False)
                self.assertIsNone(told_plan(task))
            else:
                self.assertIsNotNone(told_plan(task))

    def test_untold(self):
        rooms = list(agree_task(3).rooms[:6])
        for room in (FULL | Web.of((7,)), EIGHT):
            task = Task(FULL, room | FULL, rooms[:3] + [web & room for web in rooms[3:]] + [room])
            self.same(self.check(Desk(task))[3], "untold")
        # One such room is enough.
        inputs = Web.of((0, 1, 2), (1, 2, 3))
        for place in range(2):
            webs = [FULL, FULL]
            webs[place] = EIGHT
            task = Task(inputs, FULL | EIGHT, [Web.of((0,))] * (len(inputs) - 2) + webs)
            self.same(self.check(Desk(task)), (True, True, 0, "untold"))

    def test_too_many_corners(self):
        line = Web([(point, point + 1) for point in range(30)])
        points = Web((), points=tuple(range(18)))
        untold = line | EIGHT | Web.of((40,))
        for triangle, whole in ((line, None), (untold, "untold")):
            desk = Desk(Task(FULL, untold, [points] * 3 + [line] * 3 + [line | triangle]))
            for call in (desk.chains, desk.sums, desk.two, desk.verdicts):
                self.fails(TooMany, {"word": "corners"}, call)
            if whole is None:
                self.fails(TooMany, {"word": "corners"}, desk.whole)
            else:
                self.same(desk.whole(), whole)
        self.same(Desk(many_points(500)).verdicts(), (True, True, 0, "plan"))
        desk = Desk(many_points(501))
        self.same([desk.chains(), desk.sums(), desk.whole()], [True, True, "plan"])
        self.fails(TooMany, {"word": "corners"}, desk.two)
        self.fails(TooMany, {"word": "corners"}, desk.verdicts)
        self.same([Desk(many_points(5000)).chains(), Desk(many_points(5000)).whole()], [True, "plan"])
        for call in (Desk(many_points(5001)).chains, Desk(many_points(5001)).sums, Desk(many_points(5001)).whole):
            self.fails(TooMany, {"word": "corners"}, call)

    def test_remade(self):
        # Point 141: nothing of the past counts.
        for seed in range(60):
            chance = random.Random(seed)
            desk = Desk(random_small_task(seed))
            for _ in range(4):
                word, arguments = random_deed(chance, desk.now_task)
                try:
                    do(desk, word, arguments)
                    desk.verdicts()
                except TaskError:
                    desk.great().back()
                if chance.random() < 0.3 and desk.deeds:
                    desk.back()
                desk.hours = chance.choice((0, 2, 3))
                try:
                    due = Desk(desk.now_task, hours=desk.hours).verdicts()
                except TooMany:
                    continue
                self.same(desk.verdicts(), due)

    def test_greater_and_fewer(self):
        # Point 142: a widen or a drop takes no chains, no sums and no plan, and makes two no greater.
        changed = set()
        for seed in range(160):
            chance = random.Random(seed)
            task = random_small_task(seed) if seed % 3 else ring_task(seed)
            if task is None:
                continue
            desk = Desk(task, hours=chance.choice((0, 2, 3)))
            for _ in range(3):
                word, arguments = random_deed(chance, desk.now_task)
                if word not in ("widen", "drop"):
                    continue
                before = desk.verdicts()
                try:
                    do(desk, word, arguments)
                except BadTask:
                    continue
                after = desk.verdicts()
                self.assertTrue(after[0] >= before[0] and after[1] >= before[1])
                self.assertFalse(before[3] == "plan" and after[3] == "none")
                self.assertTrue(before[2] is None or after[2] is not None and after[2] <= before[2])
                changed |= {place for place in range(4) if before[place] != after[place]}
        self.assertEqual(changed, {0, 1, 2, 3})

    def test_the_same(self):
        # Point 143: what a rename and a great keep.
        for seed in range(80):
            chance = random.Random(seed)
            task = random_small_task(seed) if seed % 2 else ring_task(seed)
            if task is None or len(task.outputs.points) < 2:
                continue
            desk = Desk(task, hours=chance.choice((0, 2, 3)))
            before = desk.verdicts()
            old = chance.sample(task.outputs.points, chance.randint(2, len(task.outputs.points)))
            after = desk.rename(list(zip(old, old[1:] + old[:1]))).verdicts()
            self.same(after[:3], before[:3])
            if "untold" not in (before[3], after[3]):
                self.same(after[3], before[3])
            desk.back().great()
            try:
                after = desk.verdicts()
            except TooMany:
                continue
            self.same([after[0], after[1], after[3]], [before[0], before[1], before[3]])
            self.assertEqual(after[2] is None, before[2] is None)
            self.assertTrue(after[2] is None or after[2] <= before[2])


def task_round(chance, names, given):
    """A task over a triangle of inputs with a room of one ring, in which some cells have the rooms given."""
    rings = [web for web in RINGS if all(room.lies_in(web) for room in given.values())]
    whole = chance.choice(rings)
    rooms = {names: whole}
    for edge in itertools.combinations(names, 2):
        rooms[edge] = some_cells(chance, whole, 0.6)
        for u in edge:
            rooms[edge] = rooms[edge] | given.get((u,), Web(()))
        rooms[edge] = given.get(edge, rooms[edge])
    for u in names:
        inner = [rooms[edge] for edge in itertools.combinations(names, 2) if u in edge]
        points = (inner[0] & inner[1]).points
        if not points:
            return task_round(chance, names, given)
        rooms[u,] = given.get((u,), Web.of((chance.choice(points),)))
    inputs = Web.of(names)
    return Task(inputs, whole, [rooms[cell] for cell in inputs.cells])


class TestGlued(Case):
    def test_by_words(self):
        told = {True: 0, False: 0}
        for seed in range(300):
            chance = random.Random(seed)
            one, other = random_small_task(seed), random_small_task(1000 + seed)
            if chance.random() < 0.5:
                shared = one.inputs & other.inputs
                rooms = [one.room(cell) if cell in shared else room for cell, room in zip(other.inputs.cells, other.rooms)]
                try:
                    other = Task(other.inputs, one.outputs | other.outputs, rooms)
                except BadTask:
                    continue
            bad = [cell for cell in one.inputs.cells if cell in other.inputs and one.room(cell) != other.room(cell)]
            told[not bad] += 1
            if bad:
                self.fails(BadTask, {"word": "glue", "cell": bad[0]}, glued, one, other)
                continue
            task = glued(one, other)
            self.assertIs(type(task), Task)
            self.assertEqual([task.inputs, task.outputs], [one.inputs | other.inputs, one.outputs | other.outputs])
            for part in (one, other):
                self.assertEqual([task.room(cell) for cell in part.inputs.cells], list(part.rooms))
            self.assertEqual(glued(other, one), task)
        self.assertTrue(min(told.values()) > 40, told)

    def test_nothing_in_common(self):
        one = Task(Web.of((0, 1)), FULL, [FULL] * 3)
        other = Task(Web.of((5,)), ring_web(5), [Web.of((4,))])
        task = glued(one, other)
        self.assertEqual([task.inputs, task.outputs], [Web.of((0, 1), (5,)), FULL | ring_web(5)])
        self.assertEqual(task.rooms, (FULL, FULL, Web.of((4,)), FULL))
        self.assertEqual(glued(one, one), one)

    def same_corner(self, one, other, good):
        """Whether both tasks have corners that are good for them with the same corner at 0."""
        found = [{row[0] for row in corner_rows(task) if good(task, row)} for task in (one, other)]
        return bool(found[0] & found[1])

    def test_one_point_in_common(self):
        told = {}
        for seed in range(250):
            chance = random.Random(seed)
            given = {(0,): Web((), points=chance.sample(range(3), chance.randint(1, 2)))}
            one, other = task_round(chance, (0, 1, 2), given), task_round(chance, (0, 3, 4), given)
            task = glued(one, other)
            due = self.same_corner(one, other, lambda part, row: sum_plan(part, row, 0) is not None)
            self.assertEqual(told_plan(task) is not None, due)
            self.assertEqual(chain_plan(task) is not None, self.same_corner(one, other, lambda part, row: True))
            for hours in (2, 3):
                self.assertEqual(has_sums(task, hours), self.same_corner(
                    one, other, lambda part, row: sum_plan(part, row, hours) is not None))
            alone = all(told_plan(part) is not None for part in (one, other))
            told[due, alone] = told.get((due, alone), 0) + 1
            self.same(Desk(task).whole(), "plan" if due else "none")
        self.assertTrue(len(told) == 3 and min(told.values()) > 1, told)

    def test_one_edge_in_common(self):
        told = {}
        for seed in range(250):
            chance = random.Random(seed)
            side = ((0,), (0, 1), (0, 1, 2))[seed % 3]
            given = {(0,): Web.of(side[:1]), (1,): Web.of(side[-1:]), (0, 1): Web(list(zip(side, side[1:])), points=side)}
            one, other = task_round(chance, (0, 1, 2), given), task_round(chance, (0, 1, 3), given)
            due = told_plan(one) is not None and told_plan(other) is not None
            self.assertEqual(told_plan(glued(one, other)) is not None, due)
            told[due] = told.get(due, 0) + 1
        self.assertTrue(len(told) == 2 and min(told.values()) > 40, told)

    def test_errors(self):
        self.fails(BadTask, {"word": "glue", "cell": (0,)}, glued, LINE, Task(Web.of((0,)), FULL, [Web.of((1,))]))
        self.fails(BadTask, {"word": "glue", "cell": (0, 1)}, glued, LINE, Task(LINE.inputs, LINE.outputs | FULL, [
            LINE.rooms[0], LINE.rooms[1], LINE.rooms[2] | FULL]))
        self.fails(BadTask, {"word": "glue", "cell": (1,)}, glued, LINE, Task(LINE.inputs, LINE.outputs | FULL, [
            LINE.rooms[0], FULL, FULL | LINE.rooms[0]]))


if __name__ == "__main__":
    unittest.main()
