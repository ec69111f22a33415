"""The interface: its names, where they are defined, and how their arguments are passed."""

import importlib
import inspect
import pathlib
import unittest

from nowaittasks.books import LabelOnly
from nowaittasks.corners import ChainPlan
from nowaittasks.desks import Desk
from nowaittasks.halving import HalfRule
from nowaittasks.labels import LabelRule
from nowaittasks.pictures import Picture
from nowaittasks.plans import Plan
from nowaittasks.ranks import RankRule
from nowaittasks.rules import Rule, TableRule
from nowaittasks.spreading import LineRule, PinnedRule
from nowaittasks.twos import PathRule

PACKAGE = pathlib.Path(__file__).resolve().parent.parent / "nowaittasks"

# For each module its functions and classes with their arguments, a class also with its members.
FUNCTIONS = {
    "tasks": {"agree_task": "many"},
    "texts": {"web_words": "web", "task_text": "task", "task_from": "text"},
    "rounds": {"round_of": "blocks", "is_round": "thing", "is_neat": "row", "blocks_of": "row",
               "neat_rounds": "names", "whole_rounds": "names"},
    "runs": {"neat_runs": "names, many", "count_runs": "size, many"},
    "views": {"views_of": "inputs, run", "seen_names": "view", "seen_inputs": "view", "is_alone": "view",
              "depth": "view"},
    "mates": {"mate": "run, name", "sign_of": "run", "place_of": "run", "run_at": "place, many"},
    "cuts": {"view_cells": "inputs, many", "cut": "cells", "view_count": "size, many", "pair_count": "size, many"},
    "levels": {"levels_run": "size, schedule", "levels_blocks": "size, schedule", "schedule_of": "size, blocks",
               "steps_for": "size, seen"},
    "looks": {"look_run": "schedule", "look_schedule": "row", "waiting_rounds": "names", "waits": "row"},
    "rules": {"told": "rule, inputs, run", "fails_at": "task, rule, inputs, run",
              "does": "task, rule, size, *, whole=False"},
    "machines": {"run_machine": "rule, inputs, schedule"},
    "walks": {"is_walk": "web, row", "walk_between": "web, one, other", "stretched": "walk, many",
              "walk_part": "web, point"},
    "corners": {"corner_rows": "task", "parted_edge": "task, corners", "chain_plan": "task"},
    "twos": {"two_fit": "task, firsts, seconds, many", "two_points": "task, many", "least_two": "task"},
    "halving": {"rounds_for": "steps", "half_told": "plan, inputs, run"},
    "boxes": {"boxed_told": "plan, inputs, asks, run"},
    "balls": {"ball": "web, centre, radius", "helly_fault": "web", "is_helly": "web", "meeting_balls": "web"},
    "pinned": {"pinned_task": "pinned", "barring_pair": "pinned, size, many", "least_rounds": "pinned, size",
               "lying_task": "web, balls", "with_starred": "pinned"},
    "spreading": {"line_steps": "task", "line_least": "task, size"},
    "following": {"step_through": "picture, number, point, seen", "follow": "picture, view",
                  "last_points": "picture, inputs, run", "reached": "picture, size"},
    "labels": {"labels_fault": "task, picture, labels", "child_labels": "picture, labels, spots, new_labels"},
    "shifted": {"shifted_task": "task, picture", "down": "picture", "down_rule": "picture, rule",
                "up_rule": "picture, rule"},
    "rings": {"is_ring": "web, row", "gap_rows": "ring, move", "move_fits": "web, ring, move",
              "touched": "ring, move", "layer_fault": "web, ring, layer", "moved": "ring, layer",
              "coned_at": "web, ring"},
    "fillings": {"filling_fault": "web, ring, filling", "rings_of": "ring, filling", "fold_layers": "ring"},
    "plans": {"ring_of": "chain, triangle", "cone_plan": "task"},
    "planrules": {"plan_picture": "plan", "plan_rule": "plan", "wheel_rings": "plan, triangle"},
    "readback": {"read_plan": "task, rule"},
    "borders": {"border": "chain, hours", "walk_chain": "walk, hours", "added": "one, other, hours, *, factor=1"},
    "clocks": {"heights_clock": "web, heights, hours"},
    "solving": {"works": "pairs, hours", "least_bad": "pairs"},
    "sumplans": {"sum_plan": "task, corners, hours", "good_pairs": "task, corners", "has_sums": "task, hours",
                 "plan_sums": "plan, hours", "walk_of": "web, first, last, chain"},
    "bars": {"bar_of": "task, corners, hours", "bars": "task, hours"},
    "counts": {"picture_sign": "picture, row", "picture_counts": "picture, labels, triangle",
               "side_chain": "picture, labels, one, other", "run_counts": "rule, inputs"},
    "sheets": {"lifted": "sums", "sheet_copies": "sums, triangle, walks"},
    "ranks": {"rank_form": "view", "rank_forms": "many", "even_count": "rule", "side_number": "rule"},
    "numbers": {"is_one_ring": "room"},
    "pulling": {"can_pull": "room, ring", "pull": "room, ring", "clock_against": "room, ring"},
    "folding": {"folded": "walk", "folds": "web, ring", "thin_pull": "web, ring"},
    "covers": {"cover_against": "web, ring"},
    "told_rooms": {"told_plan": "task", "told_bars": "task", "thin_plan": "task", "thin_against": "task"},
    "after": {"after_task": "task, box", "after_rule": "first, second", "after_chain": "task, first, second",
              "after_sums": "task, first, second"},
    "books": {"is_book": "task, walks, signs, hours", "book_of": "sum_plan"},
    "loops": {"loop_room": "hours, turns", "loop_gives": "one, other", "loop_sums": "one, other, hours", "alone": "kind"},
    "desks": {"glued": "one, other"},
    "listings": {"listing": "desk"},
}
GENERATORS = ("neat_rounds", "whole_rounds", "neat_runs", "waiting_rounds", "corner_rows", "bars")
CLASSES = {
    ("webs", "Web"): {
        "__init__": "self, cells, *, points=()", "sits": "self, row", "neighbours": "self, point",
        "part": "self, point", "steps": "self, one, other", "lies_in": "self, web", "cone_points": "self",
        "__and__": "self, other", "__or__": "self, other", "__eq__": "self, other", "__len__": "self",
        "__iter__": "self", "__contains__": None,
    },
    ("tasks", "Task"): {"__init__": "self, inputs, outputs, rooms", "room": "self, row", "__eq__": "self, other"},
    ("runs", "Run"): {
        "__init__": "self, rounds, *, names=()", "__len__": "self", "__iter__": "self", "__add__": "self, other",
        "__eq__": "self, other",
    },
    ("cuts", "ViewWeb"): {
        "__init__": "self, web, size, many", "beside": "self, view", "far": "self, views", "apart": "self, one, other",
    },
    ("levels", "Levels"): {"__init__": "self, size", "step": "self, name", "level": "self, name",
                           "taken": "self, name"},
    ("rules", "Rule"): {"__init__": "self, many", "__call__": "self, view", "point_for": "self, view"},
    ("rules", "TableRule"): {"__init__": "self, many, pairs", "point_for": "self, view"},
    ("machines", "Machine"): {"__init__": "self, rule, inputs", "step": "self, name"},
    ("corners", "ChainPlan"): {
        "__init__": "self, task, corners, walks", "corner": "self, point", "walk": "self, one, other",
        "__eq__": "self, other", "__iter__": "self",
    },
    ("twos", "PathRule"): {"__init__": "self, task, firsts, seconds, many", "point_for": "self, view"},
    ("halving", "HalfRule"): {"__init__": "self, plan", "point_for": "self, view"},
    ("boxes", "Box"): {"__init__": "self, limit", "hand": "self, name, value, wish"},
    ("pinned", "Pinned"): {"__init__": "self, inputs, graph, pins"},
    ("spreading", "PinnedRule"): {"__init__": "self, pinned, size, many", "point_for": "self, view"},
    ("spreading", "LineRule"): {"__init__": "self, task", "point_for": "self, view"},
    ("pictures", "Picture"): {
        "__init__": "self, inputs", "starred": "self, spots", "great": "self", "carrier": "self, point",
        "carrier_of": "self, row", "layer": "self, number", "is_great": "self, number",
        "new_point": "self, number, spot", "earlier": "self, number", "__eq__": "self, other",
    },
    ("labels", "LabelRule"): {"__init__": "self, picture, labels", "point_for": "self, view",
                              "label_of": "self, point"},
    ("plans", "Plan"): {
        "__init__": "self, task, corners, walks, fillings", "ring": "self, u, v, w", "filling": "self, u, v, w",
        "__eq__": "self, other",
    },
    ("clocks", "Clock"): {
        "__init__": "self, web, numbers, hours", "at": "self, one, other", "__call__": "self, walk",
        "around": "self, ring", "scaled": "self, factor", "__add__": "self, other",
    },
    ("solving", "Diagonal"): {"__init__": "self, rows, right", "solve": "self, hours", "bar": "self, hours"},
    ("sumplans", "SumPlan"): {"__init__": "self, task, corners, sides, sheets, hours"},
    ("bars", "Bar"): {"__init__": "self, task, corners, clocks, heights, hours"},
    ("ranks", "RankRule"): {"__init__": "self, many, bits", "point_for": "self, view"},
    ("numbers", "Numbers"): {"__init__": "self, room", "at": "self, one, other", "around": "self, ring",
                             "clock": "self, hours"},
    ("covers", "Cover"): {"__init__": "self, web, sheets, turns", "__getitem__": None, "__eq__": "self, other",
                          "lead": "self, sheet, walk", "round_lead": "self, ring"},
    ("books", "LabelOnly"): {"__init__": "self, labels, points", "point_for": "self, view"},
    ("loops", "Loop"): {"__init__": "self, web, first, second, third"},
    ("desks", "Desk"): {
        "__init__": "self, task, *, hours=0", "set_hours": "self, hours", "widen": "self, cell, row", "drop": "self, cell",
        "rename": "self, pairs", "great": "self", "back": "self", "chains": "self", "sums": "self", "two": "self",
        "whole": "self", "verdicts": "self", "tried": "self, deeds", "trial": "self",
    },
    ("desks", "Trial"): {"__init__": "self, desk", "__enter__": "self", "__exit__": None},
}
PROPERTIES = {
    ("webs", "Web"): ("points", "edges", "triangles", "cells", "joined", "thin"),
    ("runs", "Run"): ("rounds", "names", "left", "full", "tidy"),
    ("cuts", "ViewWeb"): ("views", "view_rows"),
    ("levels", "Levels"): ("wrote", "gone"),
    ("machines", "Machine"): ("told_points", "begun"),
    ("corners", "ChainPlan"): ("steps_each",),
    ("boxes", "Box"): ("handed", "answers"),
    ("spreading", "PinnedRule"): ("told_views",),
    ("pictures", "Picture"): ("layer_count",),
    ("plans", "Plan"): ("most_layers", "rounds_needed"),
    ("clocks", "Clock"): ("hours", "numbers"),
    ("solving", "Diagonal"): ("pairs",),
    ("sumplans", "SumPlan"): ("hours",),
    ("bars", "Bar"): ("hours", "total"),
    ("numbers", "Numbers"): ("root", "letter", "hours", "numbers"),
    ("covers", "Cover"): ("sheet_count", "turns"),
    ("loops", "Loop"): ("loop_ring", "loop_task", "kind"),
    ("desks", "Desk"): ("now_task", "deeds", "hours"),
}
CLASS_METHODS = {("webs", "Web"): {"of": "*cells", "complete": "points"}, ("runs", "Run"): {"neat": "rows"},
                 ("pictures", "Picture"): {"greats": "inputs, many"}, ("covers", "Cover"): {"of_clock": "clock"}}


def module(name):
    """The module of the package with this name."""
    return importlib.import_module(f"nowaittasks.{name}")


def arguments(call):
    """How the arguments of a function are told."""
    return str(inspect.signature(call))[1:-1]


class TestInterface(unittest.TestCase):
    def test_functions(self):
        for name, functions in FUNCTIONS.items():
            for word, told in functions.items():
                found = getattr(module(name), word)
                self.assertEqual(arguments(found), told, word)
                self.assertEqual(found.__module__, f"nowaittasks.{name}")
                self.assertEqual(inspect.isgeneratorfunction(found), word in GENERATORS, word)

    def test_methods_stand_in_their_class(self):
        for (name, word), methods in CLASSES.items():
            found = getattr(module(name), word)
            self.assertEqual(found.__module__, f"nowaittasks.{name}")
            for method, told in methods.items():
                self.assertIn(method, vars(found), word)
                if told is not None:
                    self.assertEqual(arguments(vars(found)[method]), told, (word, method))

    def test_properties_stand_in_their_class(self):
        for (name, word), properties in PROPERTIES.items():
            for entry in properties:
                self.assertIsInstance(vars(getattr(module(name), word))[entry], property, (word, entry))

    def test_class_methods(self):
        for (name, word), methods in CLASS_METHODS.items():
            found = getattr(module(name), word)
            for method, told in methods.items():
                self.assertIsInstance(vars(found)[method], classmethod)
                self.assertEqual(arguments(getattr(found, method)), told)

    def test_static_methods(self):
        self.assertIsInstance(vars(Picture)["united"], staticmethod)
        self.assertEqual(arguments(Picture.united), "rows")

    def test_kinds_of_rules(self):
        kinds = {Rule: "rule", TableRule: "table", PathRule: "path", HalfRule: "half", PinnedRule: "pinned",
                 LineRule: "line", LabelRule: "label", RankRule: "rank", LabelOnly: "labels"}
        for rule, kind in kinds.items():
            self.assertEqual(vars(rule)["KIND"], kind)
            self.assertTrue(issubclass(rule, Rule))

    def test_each_subclass_of_rule_has_its_own_kind(self):
        for path in sorted(PACKAGE.glob("*.py")):
            for word, found in vars(module(path.stem)).items():
                if inspect.isclass(found) and issubclass(found, Rule):
                    self.assertIsInstance(vars(found)["KIND"], str, word)
                    self.assertIn("point_for", vars(found))

    def test_hours_of_desks_have_a_setter(self):
        self.assertIsNotNone(vars(Desk)["hours"].fset)
        self.assertIsNone(vars(Desk)["deeds"].fset)
        self.assertIsNone(vars(Desk)["now_task"].fset)

    def test_plans_are_chain_plans(self):
        self.assertEqual(Plan.__bases__, (ChainPlan,))


if __name__ == "__main__":
    unittest.main()
