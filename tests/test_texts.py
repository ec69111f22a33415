"""Point 4: texts of webs and tasks."""

import random
import unittest

from helpers import Case, line_web
from nowaittasks.errors import BadTask, BadText
from nowaittasks.tasks import Task, agree_task
from nowaittasks.texts import task_from, task_text, web_words
from nowaittasks.webs import Web

LINES = ["inputs 0-1", "outputs 0-1 1-2", "room 0: 0", "room 1: 2", "room 0-1: 0-1 1-2"]
TASK = Task(Web.of((0, 1)), Web.of((0, 1), (1, 2)), [Web.of((0,)), Web.of((2,)), Web.of((0, 1), (1, 2))])


def with_line(number, line):
    """The text with another line of this number, counted from 1."""
    return "\n".join(LINES[:number - 1] + [line] + LINES[number:])


class TestWriting(Case):
    def test_web_words(self):
        self.same(web_words(Web(())), "none")
        self.same(web_words(Web.of((7,))), "7")
        self.same(web_words(Web.of((2, 1), (1, 0), (5,), (4, 3, 2), (0, 3))), "5 0-1 0-3 1-2 2-3-4")
        self.same(web_words(Web.of((0, 1), (1, 2), (0, 2))), "0-1 0-2 1-2")
        self.same(web_words(Web.of((10, 9), (100,), (2,))), "2 100 9-10")

    def test_task_text(self):
        self.same(task_text(TASK), "\n".join(LINES))

    def test_example(self):
        due = ("inputs 0-1-2\noutputs 0 1 2\nroom 0: 0\nroom 1: 1\nroom 2: 2\nroom 0-1: 0 1\n"
               "room 0-2: 0 2\nroom 1-2: 1 2\nroom 0-1-2: 0 1 2")
        self.same(task_text(agree_task(1)), due)

    def test_cells_in_their_order(self):
        task = Task(Web.of((9, 10), (10, 11)), Web.of((3,)), [Web.of((3,))] * 5)
        heads = [line.split(":")[0] for line in task_text(task).split("\n")]
        self.same(heads[2:], ["room 9", "room 10", "room 11", "room 9-10", "room 10-11"])


class TestReading(Case):
    def test_read_back(self):
        for task in [TASK] + [agree_task(many) for many in (1, 2, 3)]:
            self.assertEqual(task_from(task_text(task)), task)

    def test_random_tasks_read_back(self):
        for seed in range(20):
            chance = random.Random(seed)
            rows = [[chance.randrange(10 ** chance.randrange(1, 9)) for _ in range(3)] for _ in range(4)]
            outputs = Web([row for row in rows if len(set(row)) == 3] + [[3], [5, 6]])
            inputs = Web.of(tuple(chance.sample(range(10 ** 8), 3)), (1, 2))
            task = Task(inputs, outputs, [outputs] * len(inputs))
            self.assertEqual(task_from(task_text(task)), task)

    def test_lines_that_are_skipped(self):
        text = "\n   \n" + "\n\n \n".join(LINES) + "\n\n  \n"
        self.assertEqual(task_from(text), TASK)
        self.assertEqual(task_from("\n".join(LINES) + "\n"), TASK)

    def test_webs_in_any_order(self):
        for line in ("outputs 1-2 0-1", "outputs 2-1 1-0", "outputs 0-1 2-1 0-1 1 1 2", "outputs 0 1-0 1-2 2-1"):
            self.assertEqual(task_from(with_line(2, line)), TASK)
        self.assertEqual(task_from(with_line(1, "inputs 1 0 1-0")), TASK)
        self.assertEqual(task_from(with_line(5, "room 0-1: 2-1 0 1-0")), TASK)
        full = task_text(agree_task(3)).replace("outputs 0-1-2", "outputs 2-0-1 1-2-0 0-1")
        self.assertEqual(task_from(full), agree_task(3))

    def test_points_of_nine_digits(self):
        text = "inputs 999999999\noutputs 100000000\nroom 999999999: 100000000"
        self.assertEqual(task_from(text).outputs.points, (10 ** 8,))
        self.fails(BadText, {"line": 1}, task_from, text.replace("inputs 999999999", "inputs 9999999990"))
        self.fails(BadText, {"line": 2}, task_from, text.replace("outputs 1", "outputs 11"))

    def test_lines_of_another_form(self):
        wrong = ("0-1 1-2", "outputs", "outputs ", "outputs  0-1 1-2", "outputs 0-1  1-2", "outputs 0-1 1-2 ",
                 " outputs 0-1 1-2", "Outputs 0-1 1-2", "outputs: 0-1 1-2", "outputs\t0-1 1-2", "outputs 0-1\t1-2",
                 "outputs 0-1 1-2\r", "outputs 0-0 1-2", "outputs 0-1-2-3", "outputs 0- 1-2", "outputs -0 1-2",
                 "outputs 0--1 1-2", "outputs 00 0-1 1-2", "outputs 0-01 1-2", "outputs 0-1 1-2 none",
                 "outputs none none", "outputs none 0", "outputs None", "outputs 0-1,1-2", "outputs 0-1 1-2 x",
                 "outputs 0-1 1-2 +3", "outputs 0-1 1-2 3.0", "outputs 0-1 1-2 1_0", "outputs 0-1 1-2 \u0663",
                 "outputs 0-1 1-2 \u00b2", "outputs 0-1 1-2 \uff11", "outputs\u00a00-1 1-2", "outputs 0-1-0 1-2",
                 "outputs 0-1 1-2 1234567890")
        for line in wrong:
            self.fails(BadText, {"line": 2}, task_from, with_line(2, line))

    def test_heads_of_another_form(self):
        for line in ("room 1-0: 0-1 1-2", "room  0-1: 0-1 1-2", "room 0-1 : 0-1 1-2", "room 0-1 0-1 1-2",
                     "room 0-1:0-1 1-2", "room 0-1:  0-1 1-2", "room 0-1: ", "room 0-1:", "room: 0-1 1-2",
                     "room 0-1-2: 0-1 1-2", "room 00-1: 0-1 1-2", "room 0 1: 0-1 1-2", "rooms 0-1: 0-1 1-2"):
            self.fails(BadText, {"line": 5}, task_from, with_line(5, line))

    def test_lines_that_are_not_due(self):
        self.fails(BadText, {"line": 1}, task_from, "\n".join(LINES[1:]))
        self.fails(BadText, {"line": 2}, task_from, "\n".join([LINES[0]] + LINES[2:]))
        self.fails(BadText, {"line": 3}, task_from, "\n".join(LINES[:2] + [LINES[3], LINES[2], LINES[4]]))
        self.fails(BadText, {"line": 2}, task_from, "\n".join([LINES[0], LINES[0]] + LINES[1:]))

    def test_lines_are_counted_with_the_skipped_ones(self):
        self.fails(BadText, {"line": 4}, task_from, "\n" + LINES[0] + "\n  \nwrong\n" + LINES[1])
        self.fails(BadText, {"line": 1}, task_from, "\t\n" + "\n".join(LINES))

    def test_one_too_many(self):
        self.fails(BadText, {"line": 6}, task_from, "\n".join(LINES + [LINES[4]]))
        self.fails(BadText, {"line": 7}, task_from, "\n".join(LINES + ["", "room 2: 0"]))
        self.fails(BadText, {"line": 6}, task_from, "\n".join(LINES + ["\t"]))

    def test_lines_of_one_sign_are_not_skipped(self):
        for code in [9, 11, 12, 13] + list(range(33, 127)) + [160, 8195]:
            for line in (chr(code), f" {chr(code)} ", chr(code) * 3):
                self.fails(BadText, {"line": 3}, task_from, "\n".join(LINES[:2] + [line] + LINES[2:]))
                self.fails(BadText, {"line": 6}, task_from, "\n".join(LINES + [line]))

    def test_the_first_wrong_line_is_told(self):
        self.fails(BadText, {"line": 3}, task_from, "\n".join(LINES[:2] + ["room 0: x", "room 1: y"]))
        self.fails(BadText, {"line": 4}, task_from, "\n".join(LINES[:3] + ["room 1: y"]))
        self.fails(BadText, {"line": 6}, task_from, "\n".join(LINES[:4] + ["room 0-1: 7", "more"]))

    def test_lines_that_lack(self):
        for many in range(5):
            error = self.fails(BadText, {"line": 0}, task_from, "\n".join(LINES[:many]))
            self.assertIsNone(error.__cause__)
        self.fails(BadText, {"line": 0}, task_from, " \n")

    def test_parts_that_make_no_task(self):
        wrong = ((with_line(4, "room 1: none"), "room", (1,)), (with_line(4, "room 1: 3"), "outside", (1,)),
                 (with_line(5, "room 0-1: 0-1"), "parts", (0, 1)), ("inputs none\noutputs 0", "inputs", ()),
                 (with_line(2, "outputs none"), "outside", (0,)))
        for text, word, cell in wrong:
            error = self.fails(BadText, {"line": 0}, task_from, text)
            self.assertIs(type(error.__cause__), BadTask)
            self.same((error.__cause__.word, error.__cause__.cell), (word, cell))

    def test_no_inputs_leave_no_room_due(self):
        self.fails(BadText, {"line": 3}, task_from, "inputs none\noutputs 0\nroom 0: 0")

    def test_long_webs(self):
        web = line_web(59)
        self.assertEqual(web_words(web), " ".join(f"{point}-{point + 1}" for point in range(59)))


if __name__ == "__main__":
    unittest.main()
