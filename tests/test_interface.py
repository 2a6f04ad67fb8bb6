"""The interface: names, arguments and attributes, and the file in which each is defined."""

import importlib
import inspect
import unittest

from nearpapers.books import Book
from nearpapers.desks import Desk
from nearpapers.disks import Disk
from nearpapers.knowers import Knower
from nearpapers.nets import Net
from nearpapers.records import Record
from nearpapers.rules import Rule
from nearpapers.sayings import Saying
from nearpapers.webs import Web
from nearpapers.worlds import World

FUNCTIONS = {
    "webs": {"neighbours": 2, "distances": 2, "kind": 1, "slim": 1, "renumbered": 2},
    "forms": {"form": 1, "trees": 2, "tree_of": 1},
    "covers": {"cover": 3, "lifted": 2, "laid_over": 4},
    "worlds": {"view": 3, "says": 3, "all_yes": 3},
    "books": {"book_judge": 1},
    "marking": {"marked": 2, "is_marked": 3, "many_marked": 2},
    "rings": {"ring_counts": 2},
    "knowers": {"branch_kind": 4, "knows": 2},
    "joining": {"turned": 1, "both": 2, "either": 2},
    "branches": {"parting": 2, "first_known": 1, "alike": 2, "least": 1, "unlike_kinds": 1, "known": 2, "matching": 2},
    "exchange": {"knower_of": 1, "book_of": 1, "run_marks": 3, "shows": 2, "same_shown": 2},
    "sayings": {"holds": 2},
    "saidtrees": {"knower_for": 2, "saying_of": 1},
    "rules": {"rule_judge": 1},
    "claims": {"is_true": 2, "digits_of": 1},
    "claimpapers": {"papers_for": 2},
    "claimrules": {"claim_rule": 1},
    "maps": {"map_paper": 1, "map_judge": 1},
    "gluing": {"four_ring": 2, "glued": 4, "fooled": 3, "is_fooling": 4, "enough": 1, "shortest": 1},
    "halves": {"halves": 2, "crossed": 4, "is_crossing": 5, "dice_papers": 4, "dice_judge": 2, "error": 3},
    "registers": {"begun": 1, "stepped": 3, "round_behind": 4, "rest": 1, "rounds_of": 4},
    "disks": {"row_of": 1, "mark": 1, "register_of": 1, "kept_register": 1},
    "records": {"first_wrong": 1, "registers_then": 2, "recorded": 3, "is_alike": 2},
    "texts": {"web_text": 1, "book_text": 1, "read_web": 1, "read_book": 1},
    "sayingtexts": {"saying_text": 1, "rule_text": 1, "read_saying": 1, "read_rule": 1},
    "drawing": {"drawn": 2},
}
CLASSES = {
    "webs": {"Web": ["signs", "ties"]},
    "worlds": {"World": ["web", "names", "picked"]},
    "books": {"Book": ["signs", "marks", "looks"]},
    "knowers": {"Knower": ["signs", "kinds", "steps", "wholes"]},
    "sayings": {"Saying": ["form"]},
    "rules": {"Rule": ["width", "test"]},
    "records": {"Record": ["world", "most", "events"]},
}
# Classes whose objects do something, with the arguments of their methods.
DOERS = {
    "disks": {"Disk": ([], {"write": ["row"], "sync": [], "blocks": [], "synced": [], "cut": ["kept"], "copy": []})},
    "nets": {"Net": (["world", "most"], {"registers": [], "heard": ["house"], "disk": ["house"], "bag": [],
                                         "deed": ["thing"], "trip": ["order"], "at_rest": [], "copy": []})},
    "desks": {"Desk": ([], {"tell": ["line"], "undoable": []})},
}


def module_of(name):
    return importlib.import_module("nearpapers." + name)


class InterfaceTest(unittest.TestCase):
    def test_functions(self):
        for name, functions in FUNCTIONS.items():
            for word, many in functions.items():
                made = getattr(module_of(name), word)
                self.assertTrue(inspect.isfunction(made))
                self.assertEqual((made.__module__, made.__name__), ("nearpapers." + name, word))
                self.assertEqual(len(inspect.signature(made).parameters), many)

    def test_classes(self):
        for name, classes in CLASSES.items():
            for word, fields in classes.items():
                made = getattr(module_of(name), word)
                self.assertEqual((made.__module__, made.__name__), ("nearpapers." + name, word))
                self.assertEqual(list(inspect.signature(made).parameters), fields)
                self.assertIn("__eq__", vars(made))
                self.assertIn("__init__", vars(made))

    def test_classes_that_do_something(self):
        for name, classes in DOERS.items():
            for word, (fields, methods) in classes.items():
                made = getattr(module_of(name), word)
                self.assertEqual((made.__module__, made.__name__), ("nearpapers." + name, word))
                self.assertEqual(list(inspect.signature(made).parameters), fields)
                for method, told in methods.items():
                    self.assertIn(method, vars(made))
                    self.assertEqual(list(inspect.signature(vars(made)[method]).parameters), ["self", *told])

    def test_every_module_of_the_interface_is_there(self):
        self.assertEqual(len({*FUNCTIONS, *CLASSES, *DOERS, "errors"}), 29)

    def test_objects_of_unlike_classes_are_unlike(self):
        web = Web((0,), ())
        world = World(web, (0,), ())
        things = [web, World(web, None, ()), Book(1, 1, ()), Knower(1, 1, ((0, 0, 0),), ()), Saying(("yes",)),
                  Rule(0, ("yes",)), Disk(), Net(world, 1), Record(world, 1, ()), Desk()]
        for one in things:
            self.assertEqual([one == other for other in things], [one is other for other in things])
        self.assertEqual(web.many, 1)

    def test_objects_never_change(self):
        web = Web((0, 1), ((0, 1, 4),))
        world = World(web, (3, 4), (0,))
        for held in [web.signs, web.ties, world.names, world.picked]:
            self.assertIsInstance(held, tuple)


if __name__ == "__main__":
    unittest.main()
