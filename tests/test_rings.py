"""Point 3.4: how many rings of each length a book shows."""

import itertools
import unittest

from nearpapers.books import Book
from nearpapers.errors import NoNumber
from nearpapers.rings import ring_counts
from tests.helper import all_looks, colours, dice_of, odd_things, plain_many, random_book, ring_web


class RingCountsTest(unittest.TestCase):
    def test_against_trying_all(self):
        dice = dice_of(17)
        for trial in range(30):
            signs, marks, most = dice.choice([(1, 1, 8), (1, 2, 8), (1, 3, 6), (2, 1, 7), (2, 2, 5), (3, 1, 6)])
            book = random_book(dice, signs, marks, dice.choice([20, 50, 90]))
            plain = [sum(plain_many(book, ring_web(row)) for row in itertools.product(range(signs), repeat=many))
                     for many in range(3, most + 1)]
            self.assertEqual(ring_counts(book, most), tuple(plain))

    def test_three_and_forty(self):
        for marks in (1, 2, 3, 12):
            told = ring_counts(colours(1, marks), 40)
            self.assertEqual(told, tuple([(marks - 1) ** many + (marks - 1) * (-1) ** many for many in range(3, 41)]))
            self.assertEqual(ring_counts(colours(1, marks), 3), told[:1])

    def test_signs_are_told_apart(self):
        everything = Book(3, 2, tuple(sorted(all_looks(3, 2))))
        self.assertEqual(ring_counts(everything, 40), tuple([6 ** many for many in range(3, 41)]))
        self.assertEqual(ring_counts(colours(2, 3), 20),
                         tuple([2 ** many * (2 ** many + 2 * (-1) ** many) for many in range(3, 21)]))
        self.assertEqual(ring_counts(Book(3, 12, ()), 5), (0, 0, 0))

    def test_looks_of_other_sizes_mean_nothing(self):
        looks = tuple(sorted([look for look in all_looks(1, 2) if len(look[2]) != 2]))
        self.assertEqual(ring_counts(Book(1, 2, looks), 6), (0, 0, 0, 0))

    def test_no_number(self):
        for most in [0, 1, 2, 41, -1, 10 ** 19, *odd_things()]:
            with self.assertRaises(NoNumber):
                ring_counts(colours(1, 2), most)


if __name__ == "__main__":
    unittest.main()
