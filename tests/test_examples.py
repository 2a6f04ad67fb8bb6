"""The examples of the document, word for word."""

import unittest

from nearpapers.books import Book
from nearpapers.branches import first_known
from nearpapers.claimpapers import papers_for
from nearpapers.claims import digits_of
from nearpapers.covers import cover
from nearpapers.disks import mark
from nearpapers.drawing import drawn
from nearpapers.exchange import book_of, shows
from nearpapers.forms import form, trees
from nearpapers.gluing import enough, shortest
from nearpapers.halves import error
from nearpapers.knowers import Knower, knows
from nearpapers.maps import map_paper
from nearpapers.marking import marked
from nearpapers.registers import rest, stepped
from nearpapers.rings import ring_counts
from nearpapers.rules import Rule, rule_judge
from nearpapers.saidtrees import knower_for
from nearpapers.sayings import Saying, holds
from nearpapers.sayingtexts import saying_text
from nearpapers.texts import web_text
from nearpapers.webs import Web, distances, kind, neighbours
from nearpapers.worlds import World, says, view

w = Web((0, 1, 0), ((0, 1, 0), (1, 2, 0)))
r = Web((1, 0, 0), ((0, 1, 0), (0, 2, 0), (1, 2, 0)))
v = World(w, (5, 9, 2), (0,))
b = Book(1, 2, ((0, 0, ()), (0, 0, ((0, 1),)), (0, 0, ((0, 1), (0, 1))), (0, 1, ()), (0, 1, ((0, 0),)), (0, 1, ((0, 0), (0, 0)))))
e = Knower(1, 2, ((0, 1, 0, 1, 0, 0),), ((0, (0,)), (0, (0, 0, 0)), (0, (0, 1)), (0, (0, 1, 1))))


class ExamplesTest(unittest.TestCase):
    def test_e01(self):
        self.assertEqual(kind(w), "tree")
        self.assertEqual(neighbours(w, 1), (0, 2))
        self.assertEqual(distances(w, 0), (0, 1, 2))

    def test_e02(self):
        self.assertEqual(form(w), (0, ((1, ((0, ()),)),)))

    def test_e03(self):
        self.assertEqual(trees(1, 4), ((0, ((0, ()), (0, ()), (0, ()))), (0, ((0, ()), (0, ((0, ()),))))))

    def test_e04(self):
        self.assertEqual(cover(r, 2, ((0, 1), (1, 0), (0, 1))), (Web((1, 0, 0, 1, 0, 0), ((0, 1, 0), (0, 5, 0), (1, 2, 0), (2, 3, 0), (3, 4, 0), (4, 5, 0))), (0, 1, 2, 0, 1, 2)))

    def test_e05(self):
        self.assertEqual(view(v, (None, 3, None), 1), ((9, 1, 3), ((2, 0, False, 0, None), (5, 0, True, 0, None))))

    def test_e06(self):
        self.assertIsNone(marked(b, r))
        self.assertEqual(ring_counts(b, 6), (0, 2, 0, 2))

    def test_e07(self):
        self.assertIs(knows(e, Web((0, 0), ((0, 1, 0),))), True)
        self.assertEqual(first_known(e), (0, ((0, ()),)))

    def test_e08(self):
        self.assertIsNone(shows(book_of(e), e))

    def test_e09(self):
        self.assertIs(holds(Saying(("some", "x", ("sign", "x", 1))), w), True)

    def test_e10(self):
        self.assertIs(knows(knower_for(Saying(("some", "x", ("sign", "x", 1))), 2), w), True)

    def test_e11(self):
        self.assertEqual(says(v, ((0,), (1,), (0,)), rule_judge(Rule(1, ("each", ("not", ("same", ("own", 0), ("its", 0))))))), (True, True, True))

    def test_e12(self):
        self.assertEqual(papers_for(("leader",), v), ((9, 1), (9, 0), (9, 1)))
        self.assertEqual(digits_of(((9, 1), (9, 0), (9, 1))), 4)

    def test_e13(self):
        self.assertEqual(map_paper(v), ((5, 9, 2), (0, 1, 0), ((0, 1, 0), (1, 2, 0)), (1, 0)))

    def test_e14(self):
        self.assertEqual(enough(2), 289)
        self.assertEqual(shortest(1000), 2)

    def test_e15(self):
        self.assertEqual(error((0, 1), (1, 0), 3), (1, 3))

    def test_e16(self):
        self.assertEqual(stepped(5, 10, ((3, None), (7, (7, 0, 7, 1)))), (7, 1, 7, 1))
        self.assertEqual(rest(v), ((9, 1, 9, 1), (9, 0, 9, 3), (9, 1, 9, 1)))

    def test_e17(self):
        self.assertEqual(mark(b"\x00" * 16), 1048577)

    def test_e18(self):
        self.assertEqual(web_text(w), "web 0 1 0\ntie 0 1 0\ntie 1 2 0\n")

    def test_e19(self):
        self.assertEqual(saying_text(Saying(("every", "x", ("not", ("sign", "x", 2))))), "every x not sign x 2")

    def test_e20(self):
        self.assertEqual(drawn(v, ((9, 1), (9, 0), None)), "0 5 0 (9,1) 1*\n1 9 1 (9,0) 0* 2\n2 2 0 - 1\n")


if __name__ == "__main__":
    unittest.main()
