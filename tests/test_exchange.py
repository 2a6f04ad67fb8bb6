"""Points 5.1 to 5.3: books and knowers, each led into the other, and books judged for all slim trees."""

import functools
import itertools
import unittest

from nearpapers.books import Book
from nearpapers.branches import alike, least, parting, unlike_kinds
from nearpapers.errors import NoHouse, NoTree, NotShown, OtherSigns, TooMany
from nearpapers.exchange import book_of, knower_of, run_marks, same_shown, shows
from nearpapers.forms import tree_of
from nearpapers.joining import both, either, turned
from nearpapers.knowers import Knower, knows
from nearpapers.knowing import big_knower
from nearpapers.marking import is_marked, marked
from nearpapers.webs import Web, renumbered
from tests.helper import E, all_looks, bundles, colours, dice_of, houses_modulo, knows_all, knows_none, odd_things
from tests.helper import random_book, random_slim_tree, remainder, ring_web, row_web, small_trees, some_knowers

SIXTY = Book(2, 2, (
    (0, 0, ((0, 0),)), (0, 0, ((0, 0), (0, 0), (0, 1))), (0, 0, ((0, 0), (0, 0), (1, 0))),
    (0, 0, ((0, 0), (0, 0), (1, 1))), (0, 0, ((0, 0), (0, 1), (0, 1))), (0, 0, ((0, 0), (0, 1), (1, 0))),
    (0, 0, ((0, 0), (1, 0), (1, 1))), (0, 0, ((0, 1), (0, 1), (1, 0))), (0, 0, ((0, 1), (0, 1), (1, 1))),
    (0, 0, ((0, 1), (1, 0), (1, 1))), (0, 0, ((0, 1), (1, 1))), (0, 0, ((0, 1), (1, 1), (1, 1))),
    (0, 0, ((1, 0), (1, 0), (1, 1))), (0, 0, ((1, 1),)), (0, 0, ((1, 1), (1, 1), (1, 1))), (0, 1, ((0, 0), (0, 0))),
    (0, 1, ((0, 0), (0, 0), (1, 0))), (0, 1, ((0, 0), (0, 0), (1, 1))), (0, 1, ((0, 0), (1, 0))),
    (0, 1, ((0, 0), (1, 1))), (0, 1, ((0, 0), (1, 1), (1, 1))), (0, 1, ((0, 1), (0, 1), (0, 1))),
    (0, 1, ((0, 1), (1, 0), (1, 0))), (0, 1, ((1, 0), (1, 0), (1, 0))), (0, 1, ((1, 0), (1, 0), (1, 1))), (1, 0, ()),
    (1, 0, ((0, 0), (0, 0), (0, 1))), (1, 0, ((0, 0), (1, 0), (1, 1))), (1, 0, ((0, 0), (1, 1), (1, 1))),
    (1, 0, ((1, 0),)), (1, 0, ((1, 1), (1, 1), (1, 1))), (1, 1, ()), (1, 1, ((0, 0),)),
    (1, 1, ((0, 0), (0, 0), (1, 0))), (1, 1, ((0, 0), (0, 1))), (1, 1, ((0, 0), (1, 0), (1, 0))),
    (1, 1, ((0, 0), (1, 0), (1, 1))), (1, 1, ((0, 1), (1, 0))), (1, 1, ((1, 0),)), (1, 1, ((1, 0), (1, 1))),
    (1, 1, ((1, 1), (1, 1))), (1, 1, ((1, 1), (1, 1), (1, 1)))))
SIXTY_ONE = Book(1, 3, (
    (0, 0, ()), (0, 0, ((0, 0),)), (0, 0, ((0, 0), (0, 0))), (0, 0, ((0, 0), (0, 0), (0, 0))), (0, 0, ((0, 0), (0, 1))),
    (0, 0, ((0, 0), (0, 2))), (0, 0, ((0, 1),)), (0, 0, ((0, 1), (0, 2))), (0, 0, ((0, 2),)), (0, 1, ((0, 0),)),
    (0, 1, ((0, 0), (0, 0), (0, 0))), (0, 1, ((0, 0), (0, 2))), (0, 1, ((0, 1), (0, 1), (0, 1))),
    (0, 1, ((0, 1), (0, 2))), (0, 1, ((0, 2), (0, 2), (0, 2))), (0, 2, ((0, 0), (0, 1))),
    (0, 2, ((0, 0), (0, 1), (0, 1))), (0, 2, ((0, 1), (0, 1), (0, 2))), (0, 2, ((0, 1), (0, 2))),
    (0, 2, ((0, 2), (0, 2), (0, 2)))))


def plain_set(book, sign, hanging):
    """The set of the branch whose top has a sign and on which branches of these sets hang, as 5.1 tells it."""
    told = set()
    for mark, above_sign, above in itertools.product(range(book.marks), range(book.signs), range(book.marks)):
        ways = [[m for m, s, other in triples if (s, other) == (sign, mark)] for _, triples in hanging]
        for marks in itertools.product(*ways):
            near = [(above_sign, above)] + [(top, m) for (top, _), m in zip(hanging, marks)]
            if (sign, mark, tuple(sorted(near))) in book.looks:
                told.add((mark, above_sign, above))
    return (sign, frozenset(told))


def plain_sets(book, most):
    """The unlike sets of branches; no more are sought when there are more than most."""
    found = []
    told = {plain_set(book, sign, []) for sign in range(book.signs)}
    while told and len(found) <= most:
        one = told.pop()
        found.append(one)
        for hanging in [[one], *[[one, other] for other in found]]:
            told |= {plain_set(book, sign, hanging) for sign in range(book.signs)}
        told -= set(found)
    return found


@functools.lru_cache(None)
def some_books():
    """Books of few signs and marks."""
    dice = dice_of(51)
    return [random_book(dice, signs, marks, part) for signs, marks in [(1, 1), (1, 2), (1, 3), (2, 1), (2, 2), (3, 1)]
            for part in (10, 25, 40, 60, 85) for _ in range(2)] + [
                colours(1, 2), colours(2, 3), Book(1, 1, ()), Book(3, 2, ()), SIXTY, SIXTY_ONE, book_of(E),
                Book(2, 2, tuple(sorted(all_looks(2, 2))))]


@functools.lru_cache(None)
def many_sets():
    """How many unlike sets branches have by these books, 61 for more."""
    return [len(plain_sets(book, 60)) for book in some_books()]


def books_of_few_sets(signs):
    """Those of the books by which branches have at most 60 sets."""
    return [book for book, many in zip(some_books(), many_sets()) if many <= 60 and book.signs in signs]


class KnowerOfTest(unittest.TestCase):
    def test_against_all_small_trees(self):
        told = {True: 0, False: 0}
        for book in some_books():
            try:
                knower = knower_of(book)
            except TooMany as error:
                self.assertEqual(error.most, 60)
                continue
            self.assertEqual(knower.signs, book.signs)
            self.assertEqual(unlike_kinds(knower), tuple(range(knower.kinds)))
            for _, web in small_trees(book.signs):
                shown = marked(book, web) is not None
                self.assertIs(knows(knower, web), shown)
                told[shown] += 1
        self.assertGreater(min(told.values()), 300)

    def test_sixty_sets_and_more(self):
        for book, many in zip(some_books(), many_sets()):
            if many > 60:
                with self.assertRaises(TooMany):
                    knower_of(book)
            else:
                self.assertLessEqual(knower_of(book).kinds, many)
        self.assertEqual(len(plain_sets(SIXTY, 100)), 60)
        self.assertEqual(len(plain_sets(SIXTY_ONE, 61)), 61)
        self.assertEqual(knower_of(SIXTY).signs, 2)
        with self.assertRaises(TooMany) as caught:
            knower_of(SIXTY_ONE)
        self.assertEqual(caught.exception.most, 60)

    def test_a_knower_that_is_told_is_taken_by_all(self):
        knower = knower_of(SIXTY)
        self.assertGreater(knower.kinds, 12)
        for _, web in small_trees(2):
            self.assertEqual(knows(knower, web), marked(SIXTY, web) is not None)
        self.assertTrue(alike(knower, least(knower)))

    def test_signs_that_no_look_has(self):
        self.assertEqual(knower_of(Book(3, 1, ())).kinds, 1)
        self.assertTrue(alike(knower_of(Book(3, 1, ((2, 0, ()),))), knower_of(Book(3, 4, ((2, 3, ()),)))))


class BookOfTest(unittest.TestCase):
    def test_looks_as_told(self):
        for knower in [E, remainder(2, 2, 1), remainder(3, 2, 0), houses_modulo(1, 4, 3), houses_modulo(2, 3, 0),
                       knows_all(3), knows_none(2), Knower(1, 3, ((1,) * 10,), ((0, (0, 2)), (0, (1,)), (0, (1, 1)), (0, (1, 1, 1)), (0, (2, 2, 2))))]:
            book = book_of(knower)
            self.assertEqual((book.signs, book.marks), (knower.signs, 3 * knower.kinds))
            self.assertEqual(book.looks, tuple(sorted(self.plain_looks(knower))))

    def plain_looks(self, knower):
        cells = [(sign, mark) for sign in range(knower.signs) for mark in range(3 * knower.kinds)]
        for sign, mark in cells:
            kind, third = mark // 3, mark % 3
            for many in range(4):
                for near in itertools.combinations_with_replacement(cells, many):
                    ups = [one for one in near if one[1] % 3 == (third - 1) % 3]
                    hanging = tuple(sorted([one[1] // 3 for one in near if one[1] % 3 == (third + 1) % 3]))
                    if len(ups) > 1 or len(ups) + len(hanging) != many:
                        continue
                    if ups:
                        good = kind == knower.steps[sign][bundles(knower.kinds, 2).index(hanging)]
                    else:
                        good = kind == 0 and (sign, hanging) in knower.wholes
                    if good:
                        yield (sign, mark, near)

    def test_the_second_fact(self):
        for knower in [E, remainder(2, 4, 1), remainder(3, 3, 2), houses_modulo(1, 4, 0), knows_all(2), knows_none(1)]:
            book = book_of(knower)
            self.assertIsNone(shows(book, knower))
            self.assertTrue(alike(knower_of(book), knower))
            for _, web in small_trees(knower.signs)[:60]:
                self.assertEqual(marked(book, web) is not None, knows(knower, web))

    def test_four_kinds_and_five(self):
        self.assertEqual(book_of(houses_modulo(3, 4, 0)).marks, 12)
        for knower in [houses_modulo(1, 5, 0), remainder(2, 12, 1), knower_of(SIXTY),
                       Knower(1, 5, ((0,) * 21,), ()), both(remainder(2, 8, 1), remainder(2, 3, 1))]:
            with self.assertRaises(TooMany) as caught:
                book_of(knower)
            self.assertEqual(caught.exception.most, 4)


class RunMarksTest(unittest.TestCase):
    def check(self, knower, web):
        for root in range(web.many):
            marks = run_marks(knower, web, root)
            self.assertEqual(marks[root], 0)
            if knower.kinds <= 4:
                self.assertTrue(is_marked(book_of(knower), web, marks))
            self.assertEqual([mark % 3 for mark in marks], [far % 3 for far in self.far_from(web, root)])

    def far_from(self, web, root):
        far = {root: 0}
        while len(far) < web.many:
            for a, b, _ in web.ties:
                for one, other in ((a, b), (b, a)):
                    if one in far and other not in far:
                        far[other] = far[one] + 1
        return [far[house] for house in range(web.many)]

    def test_papers_by_the_book(self):
        dice = dice_of(52)
        for knower in [E, remainder(2, 4, 0), houses_modulo(3, 3, 0), remainder(2, 7, 2), knows_all(3)]:
            done = 0
            while done < 12:
                web = random_slim_tree(dice, dice.randrange(1, 10), knower.signs)
                order = list(range(web.many))
                dice.shuffle(order)
                web = renumbered(web, tuple(order))
                if knows(knower, web):
                    self.check(knower, web)
                    done += 1

    def test_marks(self):
        self.assertEqual(run_marks(E, row_web(4), 0), (0, 1, 5, 0))
        self.assertEqual(run_marks(E, row_web(4, weight=5), 1), (1, 0, 4, 2))
        # Five kinds and more: marks that no book takes.
        self.assertEqual(run_marks(houses_modulo(1, 7, 0), row_web(7), 0), (0, 19, 17, 12, 10, 8, 3))

    def test_errors_in_order(self):
        bad = [ring_web((0, 0, 0)), Web((1,), ()), Web((0,) * 5, tuple([(0, k, 0) for k in range(1, 5)]))]
        for web in bad:
            for root in [0, 99, None]:
                with self.assertRaises(NoTree):
                    run_marks(E, web, root)
        for web in [row_web(3), row_web(4)]:
            for root in [web.many, -1, 10 ** 19, *odd_things()]:
                with self.assertRaises(NoHouse):
                    run_marks(E, web, root)
        for root in range(3):
            with self.assertRaises(NotShown):
                run_marks(E, row_web(3), root)


class ShowsTest(unittest.TestCase):
    def plain(self, book, knower):
        for form, web in small_trees(book.signs):
            shown, known = marked(book, web) is not None, knows(knower, web)
            if shown != known:
                return ("fooled" if shown else "unshown", form)
        return None

    def test_against_all_small_trees(self):
        words = {"fooled": 0, "unshown": 0}
        for book in books_of_few_sets((1, 2, 3)):
            for knower in some_knowers(book.signs):
                plain, told = self.plain(book, knower), shows(book, knower)
                if plain is not None:
                    self.assertEqual(told, plain)
                    words[plain[0]] += 1
                elif told is not None:
                    self.assertEqual(told[1], parting(knower_of(book), knower))
                    self.assertEqual(told[0] == "unshown", knows(knower, tree_of(told[1])))
        self.assertGreater(min(words.values()), 20)

    def test_same_shown_against_all_small_trees(self):
        books = books_of_few_sets((2,))
        for one in books:
            for other in books:
                plain = [form for form, web in small_trees(2)
                         if (marked(one, web) is None) != (marked(other, web) is None)]
                told = same_shown(one, other)
                if plain:
                    self.assertEqual(told, plain[0])
                else:
                    self.assertIs(told is None, alike(knower_of(one), knower_of(other)))
                self.assertEqual(told, same_shown(other, one))

    def test_none_and_words(self):
        book = book_of(E)
        self.assertIsNone(shows(book, E))
        self.assertEqual(shows(book, turned(E)), ("unshown", (0, ())))
        self.assertEqual(shows(book, knows_none(1)), ("fooled", (0, ((0, ()),))))
        self.assertEqual(shows(colours(1, 2), E), ("fooled", (0, ())))
        self.assertIsNone(shows(colours(1, 2), knows_all(1)))
        self.assertIsNone(same_shown(colours(1, 2), colours(1, 3)))
        self.assertEqual(same_shown(colours(1, 2), book), (0, ()))
        self.assertIsNone(same_shown(SIXTY, SIXTY))

    def test_errors_in_order(self):
        big = big_knower(1, 61, (tuple([(1 + sum(bundle)) % 61 for bundle in bundles(61, 2)]),),
                         tuple([(0, bundle) for bundle in bundles(61, 3) if (1 + sum(bundle)) % 61 == 0]))
        with self.assertRaises(OtherSigns):
            shows(SIXTY_ONE, knows_all(2))
        with self.assertRaises(OtherSigns):
            same_shown(SIXTY, SIXTY_ONE)
        for call in [lambda: shows(SIXTY_ONE, E), lambda: same_shown(SIXTY_ONE, colours(1, 2)),
                     lambda: same_shown(colours(1, 2), SIXTY_ONE), lambda: same_shown(SIXTY_ONE, SIXTY_ONE),
                     lambda: shows(Book(1, 1, ()), big)]:
            with self.assertRaises(TooMany) as caught:
                call()
            self.assertEqual(caught.exception.most, 60)
        # A tree of 60 houses is told.
        sixty = big_knower(1, 60, (tuple([(1 + sum(bundle)) % 60 for bundle in bundles(60, 2)]),),
                           tuple([(0, bundle) for bundle in bundles(60, 3) if (1 + sum(bundle)) % 60 == 0]))
        word, form = shows(Book(1, 1, ()), sixty)
        self.assertEqual((word, tree_of(form).many), ("unshown", 60))
        self.assertTrue(knows(either(E, E), row_web(2)))


if __name__ == "__main__":
    unittest.main()
