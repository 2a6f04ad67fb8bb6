"""Points 0.3: the error classes."""

import unittest

from nearpapers import errors
from tests.helper import nested, odd_things

PLAIN = ("NoHouse NoOrder NoTree NoForm NoNumber NoTurns NoNames NoPicked NoPapers NoSigns NotShown OtherSigns "
         "BadSaying NoClaim NotTrue BadTest NoMarks NoBits NoPrime NoName NoHeard NoRegisters NoRegister NoRow "
         "NoCut NoBlocks NoDeed NothingDone NoLine").split()
FIELDS = {"BadWeb": "part", "BadJudge": "house", "BadBook": "part", "TooMany": "most", "BadKnower": "part",
          "BadRule": "part", "BadOrders": "index", "BadRecord": "index", "BadText": "line", "BadWord": "place",
          "NoThing": "name"}


class ErrorsTest(unittest.TestCase):
    def classes(self):
        return {name: getattr(errors, name) for name in [*PLAIN, *FIELDS]}

    def test_all_stand_here_and_no_other(self):
        made = [name for name, thing in vars(errors).items() if isinstance(thing, type)]
        self.assertEqual(sorted(made), sorted(["NearError", *PLAIN, *FIELDS]))
        self.assertEqual(len(PLAIN) + len(FIELDS), 40)
        for name in made:
            self.assertEqual(getattr(errors, name).__module__, "nearpapers.errors")

    def test_bases(self):
        self.assertEqual(errors.NearError.__bases__, (ValueError,))
        for name, made in self.classes().items():
            self.assertEqual(made.__bases__, (errors.NearError,), name)

    def test_none_is_of_another_class(self):
        made = self.classes()
        for name in made:
            error = made[name](1) if name in FIELDS else made[name]()
            self.assertIsInstance(error, errors.NearError)
            self.assertIsInstance(error, ValueError)
            self.assertEqual([other for other in made if isinstance(error, made[other])], [name])

    def test_fields_keep_what_they_are_made_with(self):
        things = [*odd_things(), 7, "joined", 10 ** 20, nested(1, 40, list)]
        for name, field in FIELDS.items():
            for thing in things:
                error = getattr(errors, name)(thing)
                self.assertIs(getattr(error, field), thing)
            with self.assertRaises(TypeError):
                getattr(errors, name)()

    def test_raised_and_caught(self):
        for name, made in self.classes().items():
            with self.assertRaises(errors.NearError) as caught:
                raise made(name) if name in FIELDS else made()
            if name in FIELDS:
                self.assertEqual(getattr(caught.exception, FIELDS[name]), name)

    def test_equal_to_nothing_else(self):
        self.assertNotEqual(errors.BadWeb(1), errors.BadBook(1))
        self.assertNotEqual(errors.NoHouse(), errors.NoOrder())


if __name__ == "__main__":
    unittest.main()
