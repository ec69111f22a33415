"""Point 146: the listing of a desk."""

import random
import unittest

from helpers import Case, line_web, ring_web
from nowaittasks.desks import Desk
from nowaittasks.errors import NotOneRing, TooMany
from nowaittasks.listings import listing
from nowaittasks.loops import loop_room
from nowaittasks.numbers import Numbers
from nowaittasks.tasks import Task, agree_task
from nowaittasks.webs import Web
from test_corners import many_points
from test_desks import LINE, do, random_deed
from test_folding import EIGHT
from test_numbers import moore
from test_sumplans import FULL, ODD_TASK, TWICE, random_small_task


def right(thing, many):
    """A text of a thing, with blanks ahead of it up to so many signs."""
    text = str(thing)
    return " " * (many - len(text)) + text


def by_words(desk):
    """The lines, straight from point 146."""
    task = desk.now_task
    lines = ["inputs " + str(len(task.inputs.cells)) + ", outputs " + str(len(task.outputs.cells)) +
             ", deeds " + str(len(desk.deeds))]
    for cell in task.inputs.cells:
        room = task.room(cell)
        line = right("-".join(map(str, cell)), 8) + right(len(room.points), 5) + right(len(room.edges), 5)
        line += right(len(room.triangles), 5)
        if not room.triangles:
            line += " thin"
        if any(all(room.sits(part + (point,)) for part in room.cells if len(part) < 3) for point in room.points):
            line += " cone"
        if room.joined:
            try:
                line += " one ring of " + str(Numbers(room).hours) + " hours"
            except NotOneRing:
                pass
        lines.append(line)
    chains, sums, two, whole = desk.verdicts()
    word = {True: "yes", False: "no"}
    return "\n".join(lines + ["chains " + word[chains] + ", two " + ("none" if two is None else str(two)) + ", sums mod " +
                              str(desk.hours) + " " + word[sums] + ", " + whole])


class TestListing(Case):
    def test_by_words(self):
        last = set()
        for seed in range(120):
            chance = random.Random(seed)
            desk = Desk(random_small_task(seed), hours=chance.choice((0, 2, 3, 10 ** 9)))
            for _ in range(chance.randrange(3)):
                word, arguments = random_deed(chance, desk.now_task)
                if word in ("widen", "rename"):
                    do(desk, word, arguments)
            self.same(listing(desk), by_words(desk))
            last.add(listing(desk).split("\n")[-1].split(", ", 1)[1].split(" ")[-1])
        self.assertEqual(last, {"plan", "none", "untold"})

    def test_word_for_word(self):
        desk = Desk(agree_task(2))
        self.same(listing(desk), "\n".join([
            "inputs 7, outputs 6, deeds 0",
            "       0    1    0    0 thin cone one ring of 1 hours",
            "       1    1    0    0 thin cone one ring of 1 hours",
            "       2    1    0    0 thin cone one ring of 1 hours",
            "     0-1    2    1    0 thin cone one ring of 1 hours",
            "     0-2    2    1    0 thin cone one ring of 1 hours",
            "     1-2    2    1    0 thin cone one ring of 1 hours",
            "   0-1-2    3    3    0 thin one ring of 0 hours",
            "chains yes, two 0, sums mod 0 no, none"]))
        desk.widen((0, 1, 2), (0, 1, 2)).hours = 5
        self.same(listing(desk).split("\n")[0], "inputs 7, outputs 7, deeds 1")
        self.same(listing(desk).split("\n")[7:], ["   0-1-2    3    3    1 cone one ring of 1 hours",
                                                  "chains yes, two 0, sums mod 5 yes, plan"])
        self.same(listing(Desk(agree_task(1))).split("\n")[6:], [
            "     1-2    2    0    0 thin", "   0-1-2    3    0    0 thin", "chains no, two none, sums mod 0 no, untold"])

    def test_rooms(self):
        for room, due in ((EIGHT, "    5    6    0 thin"), (TWICE, "    6   15   10 one ring of 2 hours"),
                          (moore(3), "   13   39   27 one ring of 3 hours"), (ring_web(5), "    5    5    0 thin one ring of 0 hours"),
                          (FULL, "    3    3    1 cone one ring of 1 hours"), (Web.of((0,), (1,)), "    2    0    0 thin"),
                          (line_web(2), "    3    2    0 thin cone one ring of 1 hours"),
                          (EIGHT | FULL, "    5    6    1 one ring of 0 hours"),
                          (Web.of((0, 1), (0, 2), (0, 3), (1, 2), (1, 3), (2, 3)), "    4    6    0 thin")):
            task = Task(Web.of((7,)), room, [room])
            self.same(listing(Desk(task)).split("\n")[1], "       7" + due)

    def test_long_names(self):
        inputs = Web.of((9, 10, 123), (1234, 56789), (123456, 654321), (7, 8))
        desk = Desk(Task(inputs, FULL, [Web.of((2,))] * len(inputs)), hours=2)
        heads = [line.split("    1    0")[0] for line in listing(desk).split("\n")[1:-1]]
        self.same(heads, [right("-".join(map(str, cell)), 8) for cell in inputs.cells])
        for head in ("  654321", "     7-8", "  10-123", "1234-56789", "123456-654321", "9-10-123"):
            self.assertIn(head, heads)
        # Sizes are not cut either.
        task = loop_room(0, 14).loop_task
        self.same(listing(Desk(task)).split("\n")[7], "   0-1-2   45  129   84 one ring of 0 hours")

    def test_verdicts_of_some(self):
        for task, hours, due in ((ODD_TASK, 3, "chains yes, two 0, sums mod 3 yes, none"),
                                 (ODD_TASK, 2, "chains yes, two 0, sums mod 2 no, none"),
                                 (LINE, 10 ** 9, "chains yes, two 2, sums mod 1000000000 yes, plan")):
            self.same(listing(Desk(task, hours=hours)).split("\n")[-1], due)

    def test_errors_of_verdicts(self):
        self.same(listing(Desk(many_points(500))).split("\n")[1], "       0  500    0    0 thin")
        self.fails(TooMany, {"word": "corners"}, listing, Desk(many_points(501)))

    def test_nothing_is_changed(self):
        desk = Desk(LINE).widen((0,), (3,))
        kept = (desk.now_task, desk.deeds, desk.hours)
        self.same(listing(desk), listing(desk))
        self.assertEqual((desk.now_task, desk.deeds, desk.hours), kept)


if __name__ == "__main__":
    unittest.main()
