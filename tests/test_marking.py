"""Point 3.2: marking webs by a book."""

import itertools
import unittest

from nearpapers.books import Book, book_judge
from nearpapers.covers import cover, lifted
from nearpapers.errors import TooMany
from nearpapers.forms import form, tree_of
from nearpapers.marking import is_marked, many_marked, marked
from nearpapers.webs import Web, big_web, kind, renumbered
from nearpapers.worlds import World, all_yes
from tests.helper import (all_looks, colours, dice_of, odd_things, plain_many, plain_yes, random_book,
                          random_slim_tree, random_web, ring_web, row_web)

CUBE = Web((0,) * 8, tuple(sorted([(a, a ^ 1 << k, 0) for a in range(8) for k in range(3) if a < a ^ 1 << k])))
TAIL = ((0, 1, 0), (0, 2, 0), (1, 2, 0), (2, 3, 0))
LONG_RING = cover(ring_web((0,) * 16), 4, ((0, 1, 2, 3),) * 15 + ((1, 2, 3, 0),))[0]


def comb_web(many):
    """Half of the houses in a row, and one more tied to each of these."""
    half = many // 2
    ties = [(k, k + 1, 0) for k in range(half - 1)] + [(k, half + k, 0) for k in range(half)]
    return big_web((0,) * many, tuple(sorted(ties)))


class SmallWebsTest(unittest.TestCase):
    def check(self, book, web):
        number = plain_many(book, web)
        self.assertEqual(many_marked(book, web), number)
        found = marked(book, web)
        if number == 0:
            self.assertIsNone(found)
        else:
            self.assertIsInstance(found, tuple)
            self.assertTrue(plain_yes(book, web, found))
            self.assertIs(is_marked(book, web, found), True)
            self.assertTrue(all_yes(World(web, None, ()), found, book_judge(book)))

    def test_trees(self):
        dice = dice_of(12)
        for trial in range(80):
            book = random_book(dice, 2, 1 + trial % 3, dice.choice([15, 40, 80]))
            self.check(book, random_slim_tree(dice, dice.randrange(1, 7), 2))
            self.check(book, random_web(dice, dice.randrange(1, 7), signs=2, more=0, weights=9))

    def test_rings(self):
        dice = dice_of(13)
        for trial in range(60):
            book = random_book(dice, 2, 1 + trial % 3, dice.choice([15, 40, 80]))
            web = ring_web([dice.randrange(2) for _ in range(dice.randrange(3, 7))])
            order = list(range(web.many))
            dice.shuffle(order)
            self.check(book, renumbered(web, tuple(order)))

    def test_other_webs(self):
        dice = dice_of(14)
        for trial in range(60):
            book = random_book(dice, 2, 1 + trial % 3, dice.choice([15, 40, 80]))
            self.check(book, random_web(dice, dice.randrange(4, 7), signs=2, more=5))
        for part in (30, 60, 90):
            self.check(random_book(dice, 1, 2, part), CUBE)

    def test_signs_that_the_book_has_not(self):
        book = Book(1, 1, tuple(all_looks(1, 1)))
        for web in [Web((1,), ()), row_web(3, (0, 1)), ring_web((0, 0, 3)), Web((0, 0, 0, 2), TAIL)]:
            self.check(book, web)
            self.assertEqual((marked(book, web), many_marked(book, web)), (None, 0))
            self.assertIs(is_marked(book, web, (0,) * web.many), False)

    def test_four_near_cells(self):
        book = Book(1, 2, tuple(sorted(all_looks(1, 2))))
        for most in (3, 4):
            star = Web((0,) * (most + 1), tuple([(0, k, 0) for k in range(1, most + 1)]))
            self.check(book, star)
            self.assertEqual(many_marked(book, star), 16 if most == 3 else 0)

    def test_the_empty_book(self):
        for web in [Web((0,), ()), row_web(4), ring_web((0, 0, 0)), Web((0,) * 4, TAIL)]:
            self.check(Book(1, 3, ()), web)


class GreatWebsTest(unittest.TestCase):
    def test_ring_of_sixty_four(self):
        self.assertEqual(kind(LONG_RING), "ring")
        for marks in (2, 3, 12):
            book = colours(1, marks)
            self.assertEqual(many_marked(book, LONG_RING), (marks - 1) ** 64 + (marks - 1))
            found = marked(book, LONG_RING)
            self.assertTrue(plain_yes(book, LONG_RING, found))
            self.assertIs(is_marked(book, LONG_RING, found), True)
            self.assertIs(is_marked(book, LONG_RING, (0,) * 64), False)
        self.assertIsNone(marked(colours(1, 1), LONG_RING))

    def test_a_shown_web_shows_its_covers(self):
        book = colours(1, 3)
        web = ring_web((0, 0, 0))
        told, below = cover(web, 4, ((1, 2, 3, 0), (0, 1, 2, 3), (0, 1, 2, 3)))
        self.assertIs(is_marked(book, told, lifted(marked(book, web), below)), True)
        # Rings of odd length cannot be coloured with two marks, twice as long ones can.
        two = colours(1, 2)
        self.assertIsNone(marked(two, web))
        self.assertEqual(many_marked(two, told), 2)

    def test_tree_of_sixty(self):
        row = (0, ())
        for _ in range(57):
            row = (0, (row,))
        for web in [tree_of((0, ((0, ()), row))), tree_of(form(comb_web(60)))]:
            self.assertEqual(web.many, 60)
            for marks in (1, 2, 3, 12):
                book = colours(1, marks)
                self.assertEqual(many_marked(book, web), marks * (marks - 1) ** 59)
                found = marked(book, web)
                self.assertEqual(found is None, marks == 1)
                if marks > 1:
                    self.assertTrue(plain_yes(book, web, found))

    def test_sixteen_houses(self):
        book = colours(1, 2)
        self.assertEqual(many_marked(book, row_web(16)), 2)
        self.assertEqual(many_marked(book, ring_web((0,) * 16)), 2)
        star = Web((0,) * 16, tuple([(0, k, 0) for k in range(1, 16)]))
        self.assertEqual((many_marked(book, star), marked(book, star)), (0, None))

    def test_other_web_of_eight_with_twelve_marks(self):
        self.assertEqual([many_marked(colours(1, marks), CUBE) for marks in (1, 2, 3, 4)], [0, 2, 114, 2652])
        everything = Book(1, 12, tuple(sorted(all_looks(1, 12))))
        self.assertEqual(many_marked(everything, CUBE), 12 ** 8)
        self.assertTrue(plain_yes(colours(1, 12), CUBE, marked(colours(1, 12), CUBE)))

    def test_too_many(self):
        book = colours(1, 2)
        for many in (9, 16):
            webs = [Web((0,) * many, tuple(sorted([(0, many - 1, 0), (0, 2, 0)] +
                                                  [(k, k + 1, 0) for k in range(many - 1)])))]
            webs.append(Web((3,) * many, tuple([(a, b, 0) for a, b in itertools.combinations(range(many), 2)])))
            for web in webs:
                for function in (marked, many_marked):
                    with self.assertRaises(TooMany) as caught:
                        function(book, web)
                    self.assertEqual(caught.exception.most, 8)
                self.assertIs(is_marked(book, web, (0,) * many), False)
        eight = Web((0,) * 8, tuple(sorted([(0, 7, 0), (0, 3, 0)] + [(k, k + 1, 0) for k in range(7)])))
        self.assertEqual(many_marked(book, eight), 2)

    def test_is_marked_of_a_great_other_web(self):
        ties = tuple(sorted([(0, 9, 0), (0, 5, 0)] + [(k, k + 1, 0) for k in range(9)]))
        web = Web((0,) * 10, ties)
        self.assertIs(is_marked(colours(1, 2), web, (0, 1) * 5), True)
        self.assertIs(is_marked(colours(1, 2), web, (0, 1) * 4 + (1, 0)), False)


class IsMarkedTest(unittest.TestCase):
    def test_all_marks(self):
        dice = dice_of(16)
        for web in [row_web(4, (0, 1)), ring_web((0, 1, 1, 0)), Web((0, 1, 0, 1), TAIL)]:
            book = random_book(dice, 2, 2, 60)
            for papers in itertools.product(range(3), repeat=4):
                self.assertIs(is_marked(book, web, papers), plain_yes(book, web, papers))

    def test_any_object(self):
        book = Book(1, 2, tuple(sorted(all_looks(1, 2))))
        web = row_web(2)
        self.assertIs(is_marked(book, web, (0, 1)), True)
        for thing in [(0,), (0, 1, 0), [0, 1], (0, True), (False, 1), (0, 2), (0, None), (0, (1,)), (0, 10 ** 9),
                      (10 ** 19, 0), (0, -1), "01", b"\x00\x01", *odd_things()]:
            self.assertIs(is_marked(book, web, thing), False)
        for thing in odd_things():
            self.assertIs(is_marked(book, web, (0, thing)), False)


if __name__ == "__main__":
    unittest.main()
