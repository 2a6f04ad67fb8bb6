"""The interface: names, arguments and attributes, and the file in which each is defined."""

import importlib
import inspect
import unittest

from nearpapers.books import Book
from nearpapers.desks import Desk
from nearpapers.disks import Disk
from nearpapers.knowers import Knower
from nearpapers.nets import Net
from nearpapers.records import Record
from nearpapers.rules import Rule
from nearpapers.sayings import Saying
from nearpapers.webs import Web
from nearpapers.worlds import World

FUNCTIONS = {
    "webs": {"neighbours": "web house", "distances": "web house", "kind": "web", "slim": "web",
             "renumbered": "web order"},
    "forms": {"form": "web", "trees": "signs many", "tree_of": "form"},
    "covers": {"cover": "web sheets turns", "lifted": "papers below", "laid_over": "judge signs papers times"},
    "worlds": {"view": "world papers house", "says": "world papers judge", "all_yes": "world papers judge"},
    "books": {"book_judge": "book"},
    "marking": {"marked": "book web", "is_marked": "book web thing", "many_marked": "book web"},
    "rings": {"ring_counts": "book most"},
    "knowers": {"branch_kind": "knower web house up", "knows": "knower web"},
    "joining": {"turned": "knower", "both": "one other", "either": "one other"},
    "branches": {"parting": "one other", "first_known": "knower", "alike": "one other", "least": "knower",
                 "unlike_kinds": "knower", "known": "knower many", "matching": "one other"},
    "exchange": {"knower_of": "book", "book_of": "knower", "run_marks": "knower web root", "shows": "book knower",
                 "same_shown": "one other"},
    "sayings": {"holds": "saying web"},
    "saidtrees": {"knower_for": "saying signs", "saying_of": "book"},
    "rules": {"rule_judge": "rule"},
    "claims": {"is_true": "claim world", "digits_of": "papers"},
    "claimpapers": {"papers_for": "claim world"},
    "claimrules": {"claim_rule": "claim"},
    "maps": {"map_paper": "world", "map_judge": "test"},
    "gluing": {"four_ring": "i j", "glued": "a b c d", "fooled": "judge maker marks",
               "is_fooling": "judge maker marks thing", "enough": "many", "shortest": "names"},
    "halves": {"halves": "bits other", "crossed": "judge maker marks half",
               "is_crossing": "judge maker marks half thing", "dice_papers": "bits other prime point",
               "dice_judge": "prime point", "error": "bits other prime"},
    "registers": {"begun": "name", "stepped": "name most heard", "round_behind": "world most registers order",
                  "rest": "world", "rounds_of": "world most registers orders"},
    "disks": {"row_of": "register", "mark": "row", "register_of": "row", "kept_register": "blocks"},
    "records": {"first_wrong": "record", "registers_then": "record at", "recorded": "world most order",
                "is_alike": "record thing"},
    "texts": {"web_text": "web", "book_text": "book", "read_web": "text", "read_book": "text"},
    "sayingtexts": {"saying_text": "saying", "rule_text": "rule", "read_saying": "text", "read_rule": "text"},
    "drawing": {"drawn": "world papers"},
}
CLASSES = {
    "webs": {"Web": ["signs", "ties"]},
    "worlds": {"World": ["web", "names", "picked"]},
    "books": {"Book": ["signs", "marks", "looks"]},
    "knowers": {"Knower": ["signs", "kinds", "steps", "wholes"]},
    "sayings": {"Saying": ["form"]},
    "rules": {"Rule": ["width", "test"]},
    "records": {"Record": ["world", "most", "events"]},
}
# Classes whose objects do something, with the arguments of their methods.
DOERS = {
    "disks": {"Disk": ([], {"write": ["row"], "sync": [], "blocks": [], "synced": [], "cut": ["kept"], "copy": []})},
    "nets": {"Net": (["world", "most"], {"registers": [], "heard": ["house"], "disk": ["house"], "bag": [],
                                         "deed": ["thing"], "trip": ["order"], "at_rest": [], "copy": []})},
    "desks": {"Desk": ([], {"tell": ["line"], "undoable": []})},
}


def module_of(name):
    return importlib.import_module("nearpapers." + name)


class InterfaceTest(unittest.TestCase):
    def test_functions(self):
        for name, functions in FUNCTIONS.items():
            for word, arguments in functions.items():
                made = getattr(module_of(name), word)
                self.assertTrue(inspect.isfunction(made))
                self.assertEqual((made.__module__, made.__name__), ("nearpapers." + name, word))
                self.assertEqual(list(inspect.signature(made).parameters), arguments.split())

    def test_classes(self):
        for name, classes in CLASSES.items():
            for word, fields in classes.items():
                made = getattr(module_of(name), word)
                self.assertEqual((made.__module__, made.__name__), ("nearpapers." + name, word))
                self.assertEqual(list(inspect.signature(made).parameters), fields)
                self.assertIn("__eq__", vars(made))
                self.assertIn("__init__", vars(made))

    def test_classes_that_do_something(self):
        for name, classes in DOERS.items():
            for word, (fields, methods) in classes.items():
                made = getattr(module_of(name), word)
                self.assertEqual((made.__module__, made.__name__), ("nearpapers." + name, word))
                self.assertEqual(list(inspect.signature(made).parameters), fields)
                for method, told in methods.items():
                    self.assertIn(method, vars(made))
                    self.assertEqual(list(inspect.signature(vars(made)[method]).parameters), ["self", *told])

    def test_every_module_of_the_interface_is_there(self):
        self.assertEqual(len({*FUNCTIONS, *CLASSES, *DOERS, "errors"}), 29)

    def test_objects_of_unlike_classes_are_unlike(self):
        web = Web((0,), ())
        world = World(web, (0,), ())
        things = [web, World(web, None, ()), Book(1, 1, ()), Knower(1, 1, ((0, 0, 0),), ()), Saying(("yes",)),
                  Rule(0, ("yes",)), Disk(), Net(world, 1), Record(world, 1, ()), Desk()]
        for one in things:
            self.assertEqual([one == other for other in things], [one is other for other in things])
        self.assertEqual(web.many, 1)

    def test_objects_never_change(self):
        web = Web((0, 1), ((0, 1, 4),))
        world = World(web, (3, 4), (0,))
        for held in [web.signs, web.ties, world.names, world.picked]:
            self.assertIsInstance(held, tuple)


if __name__ == "__main__":
    unittest.main()
