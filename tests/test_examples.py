"""The examples of the document whose points have landed, word for word."""

import unittest

from nearpapers.books import Book
from nearpapers.covers import cover
from nearpapers.forms import form, trees
from nearpapers.knowers import Knower, knows
from nearpapers.marking import marked
from nearpapers.rings import ring_counts
from nearpapers.webs import Web, distances, kind, neighbours
from nearpapers.worlds import World, view

w = Web((0, 1, 0), ((0, 1, 0), (1, 2, 0)))
r = Web((1, 0, 0), ((0, 1, 0), (0, 2, 0), (1, 2, 0)))
v = World(w, (5, 9, 2), (0,))
b = Book(1, 2, ((0, 0, ()), (0, 0, ((0, 1),)), (0, 0, ((0, 1), (0, 1))), (0, 1, ()), (0, 1, ((0, 0),)), (0, 1, ((0, 0), (0, 0)))))
e = Knower(1, 2, ((0, 1, 0, 1, 0, 0),), ((0, (0,)), (0, (0, 0, 0)), (0, (0, 1)), (0, (0, 1, 1))))


class ExamplesTest(unittest.TestCase):
    def test_e01(self):
        self.assertEqual(kind(w), "tree")
        self.assertEqual(neighbours(w, 1), (0, 2))
        self.assertEqual(distances(w, 0), (0, 1, 2))

    def test_e02(self):
        self.assertEqual(form(w), (0, ((1, ((0, ()),)),)))

    def test_e03(self):
        self.assertEqual(trees(1, 4), ((0, ((0, ()), (0, ()), (0, ()))), (0, ((0, ()), (0, ((0, ()),))))))

    def test_e04(self):
        self.assertEqual(cover(r, 2, ((0, 1), (1, 0), (0, 1))), (Web((1, 0, 0, 1, 0, 0), ((0, 1, 0), (0, 5, 0), (1, 2, 0), (2, 3, 0), (3, 4, 0), (4, 5, 0))), (0, 1, 2, 0, 1, 2)))

    def test_e05(self):
        self.assertEqual(view(v, (None, 3, None), 1), ((9, 1, 3), ((2, 0, False, 0, None), (5, 0, True, 0, None))))

    def test_e06(self):
        self.assertIsNone(marked(b, r))
        self.assertEqual(ring_counts(b, 6), (0, 2, 0, 2))

    def test_e07_what_knows_tells(self):
        self.assertIs(knows(e, Web((0, 0), ((0, 1, 0),))), True)


if __name__ == "__main__":
    unittest.main()
