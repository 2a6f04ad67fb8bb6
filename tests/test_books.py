"""Point 3.1: books of looks."""

import itertools
import unittest

from nearpapers.books import Book, book_judge
from nearpapers.errors import BadBook
from nearpapers.worlds import World, says
from tests.helper import all_looks, dice_of, odd_things, plain_near, random_book, random_web

LOOKS = ((0, 0, ()), (0, 0, ((0, 1),)), (0, 0, ((0, 1), (0, 1))), (0, 1, ()))


class BookTest(unittest.TestCase):
    def part_of(self, signs, marks, looks):
        with self.assertRaises(BadBook) as caught:
            Book(signs, marks, looks)
        return caught.exception.part

    def test_attributes(self):
        book = Book(1, 2, LOOKS)
        self.assertEqual((book.signs, book.marks, book.looks), (1, 2, LOOKS))
        self.assertEqual(Book(3, 12, ()).looks, ())
        self.assertEqual(Book(3, 12, ((2, 11, ((2, 11),) * 3),)).marks, 12)

    def test_all_looks(self):
        looks = tuple(sorted(all_looks(3, 4)))
        self.assertEqual(len(Book(3, 4, looks).looks), 12 * (1 + 12 + 78 + 364))

    def test_signs_and_marks(self):
        for number in [0, 4, -1, *odd_things()]:
            self.assertEqual(self.part_of(number, 2, LOOKS), "signs")
            self.assertEqual(self.part_of(number, 0, None), "signs")
        for number in [0, 13, -1, *odd_things()]:
            self.assertEqual(self.part_of(1, number, LOOKS), "marks")
            self.assertEqual(self.part_of(1, number, None), "marks")

    def test_no_tuple(self):
        for looks in [[], list(LOOKS), None, "", {}, 0, Book(1, 1, ())]:
            self.assertEqual(self.part_of(1, 2, looks), -1)

    def test_a_look_that_is_none(self):
        wrong = [(), (0, 0), (0, 0, (), ()), [0, 0, ()], (1, 0, ()), (0, 2, ()), (-1, 0, ()), (False, 0, ()),
                 (0, True, ()), (0, 0, []), (0, 0, None), (0, 0, ((0, 1), (0, 0))), (0, 0, ((0, 0),) * 4),
                 (0, 0, ((1, 0),)), (0, 0, ((0, 2),)), (0, 0, ([0, 0],)), (0, 0, ((0, 0, 0),)), (0, 0, ((0,),)),
                 (0, 0, ((0, True),)), (0, 0, (0, 0)), *odd_things()]
        for look in wrong:
            self.assertEqual(self.part_of(1, 2, (look,)), 0)
            self.assertEqual(self.part_of(1, 2, (*LOOKS, look, LOOKS[0])), 4)

    def test_out_of_order_or_twice(self):
        self.assertEqual(self.part_of(1, 2, (LOOKS[1], LOOKS[0])), 1)
        self.assertEqual(self.part_of(1, 2, (LOOKS[0], LOOKS[0])), 1)
        self.assertEqual(self.part_of(1, 2, (*LOOKS, LOOKS[2])), 4)
        self.assertEqual(self.part_of(1, 2, (LOOKS[0], LOOKS[2], LOOKS[1], None)), 2)

    def test_equal(self):
        self.assertTrue(Book(1, 2, LOOKS) == Book(1, 2, tuple(list(LOOKS))))
        for other in [Book(2, 2, LOOKS), Book(1, 3, LOOKS), Book(1, 2, LOOKS[:3]), LOOKS, *odd_things()]:
            self.assertFalse(Book(1, 2, LOOKS) == other)


class JudgeTest(unittest.TestCase):
    def test_looks_alone_are_yes(self):
        dice = dice_of(11)
        for trial in range(40):
            book = random_book(dice, 2, 3, 60)
            web = random_web(dice, dice.randrange(1, 8), signs=3, more=2, weights=5)
            names = tuple(dice.sample(range(100), web.many))
            papers = tuple([dice.choice([0, 1, 2, 2, 3, None, (1,)]) for _ in web.signs])
            judge = book_judge(book)
            plain = tuple([self.plain_look(book, web, papers, house) for house in range(web.many)])
            self.assertEqual(says(World(web, names, ()), papers, judge), plain)
            self.assertEqual(says(World(web, None, ()), papers, judge), plain)
            picked = tuple(range(len(web.ties)))
            self.assertEqual(says(World(web, None, picked), papers, judge), plain)

    def plain_look(self, book, web, papers, house):
        near = [(web.signs[k], papers[k]) for k in plain_near(web, house)]
        return any((web.signs[house], papers[house], tuple(row)) in book.looks for row in itertools.permutations(near))

    def test_views_of_all_kinds(self):
        judge = book_judge(Book(1, 2, tuple(sorted(all_looks(1, 2)))))
        self.assertIs(judge(((None, 0, 1), ())), True)
        self.assertIs(judge(((7, 0, 1), ((3, 5, True, 0, 1), (4, 0, False, 0, 0), (5, 2, False, 0, 1)))), True)
        self.assertIs(judge(((None, 1, 1), ())), False)
        self.assertIs(judge(((None, 0, 2), ())), False)
        for paper in [None, (), (0,), ((),), 2, 999999999]:
            self.assertIs(judge(((None, 0, paper), ())), False)
            self.assertIs(judge(((None, 0, 0), ((None, 0, False, 0, 0), (None, 0, False, 0, paper)))), False)
        four = tuple([(None, 0, False, 0, paper) for paper in (None, 0, (1,), 1)])
        self.assertIs(judge(((None, 0, 0), four)), False)
        self.assertIs(judge(((None, 0, 0), (four[1],) * 4)), False)
        self.assertIs(judge(((None, 0, 0), (four[1],) * 3)), True)
        self.assertIs(judge(((None, 0, 0), ((None, 0, False, 3, 0),))), False)


if __name__ == "__main__":
    unittest.main()
