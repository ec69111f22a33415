"""Points 107, 111 and 112: covers, covers of clocks, where they lead, a cover against a ring."""

import itertools
import random
import unittest

from helpers import NO_NUMBERS, NO_ROWS, Case, line_web, ring_web
from nowaittasks.clocks import Clock
from nowaittasks.covers import Cover, cover_against
from nowaittasks.errors import BadNumber, BadPlan, BadRow, NotThin
from nowaittasks.fillings import rings_of
from nowaittasks.folding import folded, folds
from nowaittasks.numbers import Numbers
from nowaittasks.pulling import can_pull, pull
from nowaittasks.rings import layer_fault, moved
from nowaittasks.webs import Web
from test_clocks import all_clocks
from test_folding import EIGHT, STAR, THIN
from test_numbers import moore
from test_rings import all_moves, random_layer, random_ring
from test_sumplans import FULL, TWICE

GAP = Web.of((0, 1, 3), (1, 2, 4), (0, 2))
TURN = (1, 2, 0)
STAY = (0, 1, 2)


def all_covers(web, sheets):
    """The turns of all covers of so many sheets, by trying all rows of permutations."""
    turns = list(itertools.permutations(range(sheets)))
    return [row for row in itertools.product(turns, repeat=len(web.edges)) if not cover_faults(web, row)]


def cover_faults(web, row):
    """The triangles at which these turns do not agree."""
    at = dict(zip(web.edges, row))
    return [(x, y, z) for x, y, z in web.triangles
            if any(at[y, z][other] != at[x, z][sheet] for sheet, other in enumerate(at[x, y]))]


def led_by_words(web, row, sheet, walk):
    """Where a walk leads a sheet, step by step."""
    at = dict(zip(web.edges, row))
    for x, y in zip(walk, walk[1:]):
        if x < y:
            sheet = at[x, y][sheet]
        elif x > y:
            sheet = at[y, x].index(sheet)
    return sheet


def some_numbers(chance, web, hours):
    """The numbers of a clock of these hours: any in a thin web, else those of the room and of some heights."""
    if web.thin:
        return {edge: chance.randrange(hours) for edge in web.edges}
    told = Numbers(web)
    times = chance.choice([times for times in range(hours) if times * told.hours % hours == 0])
    height = {point: chance.randrange(hours) for point in web.points}
    return {(x, y): times * number + height[y] - height[x] for number, (x, y) in zip(told.numbers, web.edges)}


def random_cover(chance, web, sheets):
    """A cover that comes from a clock, with the sheets over each point in another order."""
    hours = chance.choice([hours for hours in range(2, sheets + 1) if sheets % hours == 0])
    numbers = some_numbers(chance, web, hours)
    order = {point: chance.sample(range(sheets), sheets) for point in web.points}
    turns = []
    for x, y in web.edges:
        row = [0] * sheets
        for sheet in range(sheets):
            first = sheet - sheet % hours
            row[order[x][sheet]] = order[y][first + (sheet + numbers[x, y]) % hours]
        turns.append(tuple(row))
    return tuple(turns)


class TestCover(Case):
    def check(self, cover, web, sheets, turns):
        """What a cover tells, straight from point 111."""
        self.assertIs(type(cover), Cover)
        self.assertEqual(cover.web, web)
        self.same([cover.sheet_count, cover.turns], [sheets, tuple(tuple(turn) for turn in turns)])
        for x, y in itertools.product(web.points, repeat=2):
            if web.sits((x, y)):
                due = tuple(led_by_words(web, turns, sheet, (x, y)) for sheet in range(sheets))
                self.same([cover[x, y], cover[(x, y)]], [due, due])

    def test_by_words(self):
        for web, sheets in ((FULL, 2), (GAP, 2), (Web.of((0, 1, 2)), 3), (line_web(2), 3), (Web.of((1, 4, 6), (4, 9)), 2)):
            good = all_covers(web, sheets)
            many = 0
            for turns in itertools.product(itertools.permutations(range(sheets)), repeat=len(web.edges)):
                if turns in good:
                    self.check(Cover(web, sheets, turns), web, sheets, turns)
                    many += 1
                else:
                    first = cover_faults(web, turns)[0]
                    self.fails(BadPlan, {"word": "cover", "cell": first}, Cover, web, sheets, turns)
            self.assertTrue(many == len(good) > 0)

    def test_the_first_triangle(self):
        web = Web.complete((0, 1, 2, 3))
        rows = {edge: STAY for edge in web.edges}
        for edge in web.edges:
            turns = [TURN if other == edge else STAY for other in rows]
            first = [cell for cell in web.triangles if set(edge) <= set(cell)][0]
            self.fails(BadPlan, {"word": "cover", "cell": first}, Cover, web, 3, turns)

    def test_one_sheet_and_many(self):
        for web in (Web(()), Web.of((5,)), FULL, ring_web(5), TWICE):
            turns = ((0,),) * len(web.edges)
            self.check(Cover(web, 1, turns), web, 1, turns)
        chance = random.Random(1)
        for sheets in (4, 7, 30):
            for web in (line_web(3), ring_web(4), STAR):
                turns = [chance.sample(range(sheets), sheets) for _ in web.edges]
                self.check(Cover(web, sheets, turns), web, sheets, turns)
        self.check(Cover(Web.of((0,), (3,)), 9, []), Web.of((0,), (3,)), 9, ())

    def test_both_ways(self):
        cover = Cover(Web.of((2, 7)), 3, [[1, 2, 0]])
        self.same([cover[2, 7], cover[7, 2], cover[2, 2], cover[7, 7]], [(1, 2, 0), (2, 0, 1), STAY, STAY])

    def test_errors_of_sheets(self):
        for sheets in NO_NUMBERS + (0,):
            self.fails(BadNumber, {"word": "sheets"}, Cover, FULL, sheets, None)

    def test_errors_of_turns(self):
        for turns in NO_ROWS + ((), (STAY,), (STAY,) * 2, (STAY,) * 4):
            self.fails(BadRow, {"place": -1}, Cover, FULL, 3, turns)
        for turn in NO_ROWS + ((), (0, 1), (0, 1, 2, 3), (0, 1, 1), (1, 2, 3), (0, 1, None), (0, True, 2), (0, 1, -2),
                               (0, 1.0, 2), "012", (0, 1, (2,)), [[0], 1, 2]):
            self.fails(BadRow, {"place": 1}, Cover, FULL, 3, (TURN, turn, None))
            self.fails(BadRow, {"place": 0}, Cover, FULL, 3, [turn, STAY, STAY])
        self.fails(BadRow, {"place": 2}, Cover, FULL, 2, ((1, 0), (0, 1), (0, 2)))

    def test_errors_of_steps(self):
        cover = Cover(Web.of((0, 1), (1, 2), (4,)), 3, (TURN, STAY))
        for at in ((0, 2), (0, 4), (3, 3), (0, 9), (True, 0), (0, None), ("0", 1), (0, 1, 1), (), 0, None, "01", (0, -1),
                   ((0,), 1)):
            self.fails(BadRow, {"place": -1}, lambda place: cover[place], at)

    def test_equal(self):
        cover = Cover(FULL, 3, (TURN, TURN, STAY))
        self.assertIs(cover == Cover(FULL, 3, [list(TURN), list(TURN), [0, 1, 2]]), True)
        for other in (Cover(FULL, 3, (STAY,) * 3), Cover(FULL | Web.of((5,)), 3, (TURN, TURN, STAY)),
                      Cover(Web.of((0, 1), (1, 2), (0, 2)), 3, (TURN, TURN, STAY)), Cover(FULL, 1, ((0,),) * 3), None,
                      (TURN, TURN, STAY), FULL, Clock(FULL, (1, 1, 0), 3), 3):
            self.assertIs(cover == other, False)
            self.assertIs(cover != other, True)
        # Without an edge only the number of sheets tells covers apart.
        self.assertIs(Cover(Web.of((0,)), 2, ()) == Cover(Web.of((0,)), 3, ()), False)
        self.assertIs(Cover(Web.of((0,)), 2, ()) == Cover(Web.of((0,)), 2, []), True)

    def test_stays_when_rows_are_changed(self):
        turns = [[1, 2, 0], [0, 1, 2]]
        cover = Cover(line_web(2), 3, turns)
        turns[0][0] = 7
        turns.clear()
        self.check(cover, line_web(2), 3, (TURN, STAY))


class TestLeads(Case):
    def test_by_words(self):
        chance = random.Random(2)
        for web in (FULL, GAP, TWICE, ring_web(4), EIGHT, line_web(3)):
            for sheets in (2, 3, 4, 6):
                turns = random_cover(chance, web, sheets)
                cover = Cover(web, sheets, turns)
                for _ in range(6):
                    ring = random_ring(chance, web, 8)
                    for sheet in range(sheets):
                        self.same(cover.lead(sheet, list(ring)), led_by_words(web, turns, sheet, ring))
                        self.same(cover.lead(sheet, ring[:1]), sheet)
                    due = tuple(led_by_words(web, turns, sheet, ring + ring[:1]) for sheet in range(sheets))
                    self.same([cover.round_lead(ring), cover.round_lead(list(ring))], [due, due])

    def test_errors_of_sheets(self):
        cover = Cover(line_web(2), 3, (TURN, STAY))
        for sheet in NO_NUMBERS + (3, 4):
            self.fails(BadNumber, {"word": "sheet"}, cover.lead, sheet, None)
        self.same([cover.lead(2, (0, 1)), cover.lead(0, (1, 0, 0))], [0, 2])

    def test_errors_of_walks(self):
        cover = Cover(line_web(2), 3, (TURN, STAY))
        for walk in NO_ROWS + ((), (0, 2), (3,), (0, 1, True), (0, None)):
            self.fails(BadRow, {"place": -1}, cover.lead, 0, walk)
        for ring in NO_ROWS + ((), (0,), (0, 1), (0, 1, 2), (3, 3, 3), (0, 0, True)):
            self.fails(BadRow, {"place": -1}, cover.round_lead, ring)

    def test_pulled_rings_are_led_back(self):
        chance = random.Random(3)
        led = {True: 0, False: 0}
        for web in (TWICE, moore(2), GAP, ring_web(4), FULL):
            for sheets in (2, 3, 4):
                cover = Cover(web, sheets, random_cover(chance, web, sheets))
                for _ in range(12):
                    ring = random_ring(chance, web, 9)
                    back = cover.round_lead(ring) == tuple(range(sheets))
                    led[back] += 1
                    if can_pull(web, ring):
                        self.assertTrue(back)
                        for other in rings_of(ring, pull(web, ring)):
                            self.same(cover.round_lead(other), tuple(range(sheets)))
        self.assertTrue(min(led.values()) > 10, led)

    def test_layers_that_leave_place_0(self):
        chance = random.Random(4)
        kept = 0
        for web in (GAP, TWICE, FULL, Web.complete((0, 1, 2, 3)), EIGHT):
            sheets = chance.choice((2, 3, 4))
            cover = Cover(web, sheets, random_cover(chance, web, sheets))
            for _ in range(40):
                ring = random_ring(chance, web)
                moves = [move for move in all_moves(ring, web.points)
                         if move[:2] != ("change", 0) and layer_fault(web, ring, (move,)) is None]
                layer = random_layer(chance, ring, moves)
                if layer and layer_fault(web, ring, layer) is None:
                    kept += 1
                    self.same(cover.round_lead(moved(ring, layer)), cover.round_lead(ring))
        self.assertGreater(kept, 60)


class TestClocks(Case):
    def test_by_words(self):
        chance = random.Random(5)
        for web, hours in ((FULL, 2), (GAP, 2), (ring_web(4), 3), (FULL, 5), (line_web(2), 12), (GAP, 3)):
            for numbers in chance.sample(all_clocks(web, hours), 4):
                clock = Clock(web, numbers, hours)
                cover = Cover.of_clock(clock)
                self.assertIs(type(cover), Cover)
                self.assertEqual(cover.web, web)
                due = tuple(tuple((sheet + number) % hours for sheet in range(hours)) for number in clock.numbers)
                self.same([cover.sheet_count, cover.turns], [hours, due])
                for _ in range(10):
                    ring = random_ring(chance, web)
                    self.same(cover.round_lead(ring),
                              tuple((sheet + clock.around(ring)) % hours for sheet in range(hours)))
                    self.same(cover.lead(1, ring), (1 + clock(ring)) % hours)

    def test_two_sheets_are_clocks_of_two_hours(self):
        for web in (FULL, GAP, ring_web(5), EIGHT, Web.complete((0, 1, 2, 3)), Web.of((4,))):
            covers = [Cover(web, 2, turns).turns for turns in all_covers(web, 2)]
            clocks = [Cover.of_clock(Clock(web, numbers, 2)).turns for numbers in all_clocks(web, 2)]
            self.assertEqual(sorted(covers), sorted(clocks))

    def test_no_hours(self):
        self.fails(BadNumber, {"word": "hours"}, Cover.of_clock, Clock(FULL, (0, 0, 0), 0))
        self.same(Cover.of_clock(Clock(Web.of((3,)), (), 2)).turns, ())


class TestAgainst(Case):
    def check(self, web, ring):
        """The cover against a ring, or None if its closed walk folds; the cover."""
        walk = folded(ring + ring[:1])
        cover = cover_against(web, ring)
        if len(walk) == 1:
            self.assertIs(folds(web, ring), True)
            self.assertIsNone(cover)
            return None
        self.assertIs(type(cover), Cover)
        self.assertEqual(cover.web, web)
        self.same([cover.sheet_count, cover.round_lead(ring)[0], cover.lead(0, ring + ring[:1])],
                  [len(walk), len(walk) - 1, len(walk) - 1])
        self.same(cover_against(web, list(ring)).turns, cover.turns)
        self.assertEqual(Cover(web, cover.sheet_count, cover.turns), cover)
        return cover

    def test_random_rings(self):
        chance = random.Random(6)
        told = 0
        for web in THIN:
            for _ in range(50):
                told += self.check(web, random_ring(chance, web, 14)) is not None
        self.assertGreater(told, 60)

    def test_round_and_round(self):
        for many in (3, 4, 7):
            web = Web([(place, (place + 1) % many) for place in range(many)])
            for times in (1, 2, 4):
                cover = self.check(web, tuple(range(many)) * times)
                self.same(cover.sheet_count, many * times + 1)
        # The spur at which the ring begins stays in the folded walk.
        spur = Web.of((0, 1), (1, 2), (2, 3), (1, 3))
        self.same(self.check(spur, (0, 1, 2, 3, 1)).sheet_count, 6)
        self.same(self.check(spur, (1, 2, 3)).sheet_count, 4)

    def test_some_cover_of_two_sheets(self):
        # One leads elsewhere exactly if the ring goes over some edge an odd number of times.
        chance = random.Random(7)
        told = {True: 0, False: 0}
        for web in THIN:
            covers = [Cover.of_clock(Clock(web, numbers, 2)) for numbers in all_clocks(web, 2)]
            for _ in range(12):
                ring = random_ring(chance, web, 12)
                steps = [tuple(sorted(pair)) for pair in zip(ring, ring[1:] + ring[:1]) if pair[0] != pair[1]]
                due = any(steps.count(edge) % 2 for edge in steps)
                self.assertEqual(any(cover.round_lead(ring) == (1, 0) for cover in covers), due)
                told[due] += 1
        self.assertTrue(min(told.values()) > 20, told)

    def test_some_clock(self):
        # One leads a sheet elsewhere exactly if the steps of the closed walk are not all 0 mod m.
        chance = random.Random(8)
        told = {True: 0, False: 0}
        for web in (EIGHT, ring_web(4), Web.of((0, 1), (1, 2), (0, 2))):
            for hours in (2, 3):
                covers = [Cover.of_clock(Clock(web, numbers, hours)) for numbers in all_clocks(web, hours)]
                for _ in range(40):
                    ring = random_ring(chance, web, 6) * chance.choice((1, 2, 3, 6))
                    steps = {}
                    for x, y in zip(ring, ring[1:] + ring[:1]):
                        steps[min(x, y), max(x, y)] = steps.get((min(x, y), max(x, y)), 0) + (y > x) - (y < x)
                    due = any(number % hours for number in steps.values())
                    self.assertEqual(any(cover.round_lead(ring)[0] != 0 for cover in covers), due)
                    told[due] += 1
        self.assertTrue(min(told.values()) > 20, told)

    def test_clocks_of_a_room(self):
        # Point 107: rooms of k hours have clocks that tell e(ring) mod what goes into k, and no others.
        for times in (1, 2, 3):
            room = moore(times)
            told = Numbers(room)
            for hours in (2, 3):
                ring = (0, 1, 2)
                if times % hours == 0:
                    cover = Cover.of_clock(told.clock(hours))
                    self.same(cover.round_lead(ring)[0], told.around(ring) % hours)
                    self.same(cover.round_lead(ring * times), tuple(range(hours)))
                else:
                    self.fails(BadNumber, {"word": "hours"}, told.clock, hours)

    def test_errors(self):
        for ring in (None, (0, 1, 2)):
            self.fails(NotThin, {"cell": (0, 1, 3)}, cover_against, GAP, ring)
        for ring in NO_ROWS + ((), (0, 1), (0, 1, 2), (0, 0, 9), (0, 0, True)):
            self.fails(BadRow, {"place": -1}, cover_against, line_web(2), ring)


if __name__ == "__main__":
    unittest.main()
