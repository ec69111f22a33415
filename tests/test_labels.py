"""Point 66: labels, right labels, the label rule, labels behind one more layer."""

import random
import unittest

from helpers import NO_ROWS, Case
from nowaittasks.errors import BadPoint, BadRow, BadSpot, BadTask, BadView
from nowaittasks.following import follow
from nowaittasks.labels import LabelRule, child_labels, labels_fault
from nowaittasks.pictures import Picture
from nowaittasks.rules import Rule, does, told
from nowaittasks.runs import Run, neat_runs
from nowaittasks.tasks import Task, agree_task
from nowaittasks.views import views_of
from nowaittasks.webs import Web
from test_pictures import FULL, good_layer

NO_LABELS = (True, None, "1", 1.0, (1,), [1])


def picture_task(seed):
    """A picture of one layer or none over few inputs, a task, and labels that may be right for it."""
    chance = random.Random(seed)
    inputs = chance.choice((FULL, Web.of((0, 1)), Web.of((0, 1, 2), (2, 3)), Web.of((1, 4), (4, 6))))
    picture = Picture(inputs)
    if seed % 4:
        picture = picture.great() if seed % 2 else picture.starred(good_layer(chance, inputs))
    labels = [chance.randrange(3) for _ in picture.web.points]
    table = dict(zip(picture.web.points, labels))
    outputs = Web.complete((0, 1, 2))
    rooms = {}
    for cell in inputs.cells:
        over = [sorted({table[point] for point in other}) for other in picture.web.cells
                if set(picture.carrier_of(other)) <= set(cell)]
        rooms[cell] = Web(over)
    if seed % 3 == 0:
        labels[chance.randrange(len(labels))] = chance.choice((0, 1, 2, 7, -1))
    return picture, Task(inputs, outputs, [rooms[cell] for cell in inputs.cells]), labels


def fault_by_words(task, picture, labels):
    """The least cell whose labels do not sit in the room of its carrier."""
    table = dict(zip(picture.web.points, labels))
    for cell in picture.web.cells:
        carrier = sorted(set().union(*[picture.carrier(point) for point in cell]))
        if not task.room(carrier).sits([table[point] for point in cell]):
            return cell
    return None


class TestLabels(Case):
    def test_faults_by_words(self):
        faults = {}
        for seed in range(900):
            picture, task, labels = picture_task(seed)
            due = fault_by_words(task, picture, labels)
            self.same(labels_fault(task, picture, labels), due)
            self.same(labels_fault(task, picture, tuple(labels)), due)
            faults[due and len(due)] = faults.get(due and len(due), 0) + 1
        self.assertGreater(min(faults[None], faults[1]), 100)
        self.assertGreater(faults[2], 3)

    def test_agreeing(self):
        great = Picture(FULL).great()
        self.assertIsNone(labels_fault(agree_task(3), great, (0, 1, 2, 0, 1, 2, 2)))
        self.same(labels_fault(agree_task(2), great, (0, 1, 2, 0, 1, 2, 2)), (1, 3, 6))
        self.same(labels_fault(agree_task(3), great, (0, 1, 2, 0, 2, 2, 2)), (4,))
        self.same(labels_fault(agree_task(3), great, (0, 5, 2, 0, 2, -2, 2)), (1,))
        self.same(labels_fault(agree_task(2), Picture(FULL), (0, 1, 2)), (0, 1, 2))
        self.same(labels_fault(agree_task(1), Picture(FULL), (0, 1, 2)), (0, 1))

    def test_rule_does_the_task_exactly_if_labels_are_right(self):
        right = {True: 0, False: 0}
        for seed in range(70):
            picture, task, labels = picture_task(seed)
            rule = LabelRule(picture, labels)
            self.same([rule.many, rule.KIND], [picture.layer_count, "label"])
            self.assertIsInstance(rule, Rule)
            good = labels_fault(task, picture, labels) is None
            self.assertIs(does(task, rule, 3) is None, good)
            self.assertTrue(not good or does(task, rule, 2) is None and does(task, rule, 1) is None)
            if good and len(picture.inputs.points) < 4:
                self.assertIsNone(does(task, rule, 3, whole=True))
            if good and len(picture.inputs.points) < 3:
                self.assertIsNone(does(task, rule, 4))
            right[good] += 1
        self.assertGreater(min(right.values()), 10)

    def test_rule_tells_labels_of_last_points(self):
        for seed in range(30):
            chance = random.Random(seed)
            picture = Picture(FULL).great().starred([(0, 3), (1, 6, 3)])
            labels = [chance.randrange(-9, 9) for _ in picture.web.points]
            table = dict(zip(picture.web.points, labels))
            rule = LabelRule(picture, labels)
            for point in picture.web.points:
                self.same(rule.label_of(point), table[point])
            for run in list(neat_runs((0, 1, 2), 2))[seed::30]:
                for inputs in ((0, 1, 2), (2, 1, 1), (1, 0, 0)):
                    self.same(told(rule, inputs, run),
                              tuple((view[0], table[follow(picture, view)]) for view in views_of(inputs, run)))

    def test_views_that_do_not_lead_to_a_point(self):
        rule = LabelRule(Picture(FULL).great(), [0] * 7)
        for view in (None, (0, ((0, 3),)), (0, ((0, ((0, 0),)),)), (0, [(0, 0)]), (0, ((0, 0), (1, 5)))):
            self.fails(BadView, {}, rule, view)
            self.fails(BadView, {}, rule.point_for, view)
        self.fails(BadView, {}, rule, (0, 1))
        self.same(LabelRule(Picture(FULL).great(), [5, 6, 7, 8, 9, 10, 11]).point_for((0, 1)), 6)

    def test_points_without_a_label(self):
        rule = LabelRule(Picture(FULL), (4, 5, 6))
        for point in (3, -1, True, None, "0", (0,), [0]):
            self.fails(BadPoint, {"point": point}, rule.label_of, point)

    def test_labels_that_change_later(self):
        labels = [4, 5, 6]
        rule = LabelRule(Picture(FULL), labels)
        labels[0] = 9
        self.same([rule.label_of(0), rule((3, 0))], [4, 4])

    def test_errors_in_order(self):
        picture = Picture(FULL).great()
        for inputs in (Web.of((0, 1)), Web.of((0, 1), (1, 2), (0, 2)), picture.web):
            task = Task(inputs, FULL, [FULL] * len(inputs))
            self.fails(BadTask, {"word": "inputs", "cell": ()}, labels_fault, task, picture, None)
        calls = (lambda labels: labels_fault(agree_task(3), picture, labels), lambda labels: LabelRule(picture, labels),
                 lambda labels: child_labels(picture, labels, None, None))
        for call in calls:
            for labels in NO_ROWS + ((), (1,) * 6, (1,) * 8, "1234567"):
                self.fails(BadRow, {"place": -1}, call, labels)
            for label in NO_LABELS:
                self.fails(BadRow, {"place": 0}, call, [label] * 7)
                self.fails(BadRow, {"place": 6}, call, (1, -1, 0, 9, 10 ** 12, 3, label))


class TestChildLabels(Case):
    def test_by_words(self):
        for seed in range(80):
            chance = random.Random(seed)
            picture, task, labels = picture_task(seed)
            spots = good_layer(chance, picture.web)
            table = dict(zip(picture.web.points, labels))
            fresh = [table[chance.choice(spot)] for spot in spots]
            child, behind = child_labels(picture, labels, spots, fresh)
            self.assertTrue(child == picture.starred(spots))
            self.assertIs(type(behind), tuple)
            after = dict(zip(child.web.points, behind))
            self.assertEqual(len(behind), len(child.web.points))
            self.same([after[point] for point in picture.web.points], labels)
            self.same([after[child.new_point(picture.layer_count, spot)] for spot in spots], fresh)
            if labels_fault(task, picture, labels) is None:
                self.assertIsNone(labels_fault(task, child, behind))

    def test_other_labels(self):
        child, behind = child_labels(Picture(Web.of((0, 1), (1, 2))), (5, 6, 7), [(2, 1), [0, 1]], [-3, 8])
        self.same([child.layer(0), behind], [(((0, 1), 3), ((1, 2), 4)), (5, 6, 7, 8, -3)])
        child, behind = child_labels(Picture(FULL), [5, 6, 7], (), ())
        self.same([child.layer_count, behind], [1, (5, 6, 7)])

    def test_errors_in_order(self):
        picture = Picture(FULL)
        self.fails(BadRow, {"place": 1}, child_labels, picture, (0, None, 0), [(0, 5)], None)
        for spots in NO_ROWS:
            self.fails(BadSpot, {"place": -1}, child_labels, picture, (0, 0, 0), spots, None)
        self.fails(BadSpot, {"place": 1}, child_labels, picture, (0, 0, 0), [(0, 1), (1, 2)], None)
        for fresh in NO_ROWS + ((), (1, 2)):
            self.fails(BadRow, {"place": -1}, child_labels, picture, (0, 0, 0), [(0, 1)], fresh)
        for label in NO_LABELS:
            self.fails(BadRow, {"place": 0}, child_labels, picture, (0, 0, 0), [(0, 1)], [label])

    def test_a_layer_may_hold_what_a_run_needs(self):
        # Labels at the input's own points, and one for the middle of an edge.
        child, behind = child_labels(Picture(Web.of((0, 1))), (0, 2), [(0, 1)], [1])
        task = Task(Web.of((0, 1)), Web.of((0, 1), (1, 2)), [Web.of((0,)), Web.of((2,)), Web.of((0, 1), (1, 2))])
        self.assertIsNone(does(task, LabelRule(child, behind), 2))
        self.same(told(LabelRule(child, behind), (0, 1), Run.neat([[(1,), (0,)]])), ((0, 1), (1, 2)))


if __name__ == "__main__":
    unittest.main()
