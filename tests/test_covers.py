"""Points 1.4 and 3.3: covers, and papers lifted to them."""

import itertools
import unittest

from nearpapers.books import book_judge
from nearpapers.covers import cover, laid_over, lifted
from nearpapers.errors import BadJudge, NoNumber, NoPapers, NoSigns, NoTurns, NotShown
from nearpapers.webs import Web, kind, neighbours
from nearpapers.worlds import World, all_yes, says
from tests.helper import dice_of, odd_things, random_book, random_web, ring_web, row_web, some_judges

RING = ring_web((1, 0, 0))


def plain_cover(web, sheets, turns):
    """The cover by the words of 1.4, over pairs (sheet, house)."""
    ties = [((k, a), (turn[k], b), weight) for (a, b, weight), turn in zip(web.ties, turns) for k in range(sheets)]
    held = {(0, 0)}
    for _ in range(sheets * web.many):
        for one, other, _ in ties:
            if one in held or other in held:
                held |= {one, other}
    order = sorted(held)
    kept = [(*sorted((order.index(one), order.index(other))), weight) for one, other, weight in ties if one in held]
    return (tuple([web.signs[a] for _, a in order]), tuple(sorted(kept)), tuple([a for _, a in order]))


class CoverTest(unittest.TestCase):
    def test_against_the_words(self):
        dice = dice_of(8)
        for trial in range(60):
            web = random_web(dice, dice.randrange(1, 9), weights=1000)
            sheets = dice.randrange(1, 5)
            turns = tuple([tuple(dice.sample(range(sheets), sheets)) for _ in web.ties])
            told, below = cover(web, sheets, turns)
            self.assertEqual((told.signs, told.ties, below), plain_cover(web, sheets, turns))
            self.assertEqual(told.many, len(below))
            self.assertIsInstance(told, Web)

    def test_one_sheet_is_the_web(self):
        for web in [RING, row_web(5), Web((2,), ())]:
            self.assertEqual(cover(web, 1, ((0,),) * len(web.ties)), (web, tuple(range(web.many))))

    def test_only_the_own_sheet(self):
        for sheets in [2, 3, 4]:
            still = tuple(range(sheets))
            self.assertEqual(cover(RING, sheets, (still,) * 3), (RING, (0, 1, 2)))
        self.assertEqual(cover(Web((3,), ()), 4, ()), (Web((3,), ()), (0,)))

    def test_sixty_four_houses(self):
        web = ring_web((0, 1, 2, 3) * 4)
        big, below = cover(web, 4, ((0, 1, 2, 3),) * 15 + ((1, 2, 3, 0),))
        self.assertEqual((big.many, kind(big)), (64, "ring"))
        self.assertEqual(below, tuple(range(16)) * 4)
        again, far_below = cover(big, 2, ((1, 0),) + ((0, 1),) * 63)
        self.assertEqual((again.many, kind(again)), (128, "ring"))
        for house in (0, 77, 127):
            self.assertEqual(sorted([far_below[k] for k in neighbours(again, house)]),
                             sorted(neighbours(big, far_below[house])))

    def test_no_number(self):
        for sheets in [0, 5, -1, *odd_things()]:
            with self.assertRaises(NoNumber):
                cover(RING, sheets, ((0,),) * 3)
            with self.assertRaises(NoNumber):
                cover(RING, sheets, None)

    def test_no_turns(self):
        good = ((0, 1), (1, 0), (0, 1))
        wrong = [(), good[:2], good + ((0, 1),), list(good), ((0, 1), (1, 0), [0, 1]), ((0, 1), (0, 0), (0, 1)),
                 ((0, 1), (0, 2), (0, 1)), ((0, 1), (0,), (0, 1)), ((0, 1), (0, 1, 1), (0, 1)),
                 ((0, 1, 2), (0, 1), (0, 1)), ((0, True),) * 3,
                 ((False, 1),) * 3, (None,) * 3, ("01",) * 3, ((0, -1),) * 3, *odd_things()]
        for turns in wrong:
            with self.assertRaises(NoTurns):
                cover(RING, 2, turns)
        for turns in odd_things():
            with self.assertRaises(NoTurns):
                cover(Web((0, 0), ((0, 1, 0),)), 1, (turns,))


class FactTest(unittest.TestCase):
    def test_lifted(self):
        self.assertEqual(lifted((None, (1,), 5), (2, 0, 1, 1)), (5, None, (1,), (1,)))
        self.assertEqual(lifted((4,), (0,)), (4,))

    def test_houses_of_a_cover_say_what_those_below_say(self):
        dice = dice_of(9)
        judges = some_judges() + [book_judge(random_book(dice, 3, 2, 50)) for _ in range(3)]
        for trial in range(25):
            web = random_web(dice, dice.randrange(1, 8), signs=3, weights=3)
            sheets = dice.randrange(1, 5)
            turns = tuple([tuple(dice.sample(range(sheets), sheets)) for _ in web.ties])
            told, below = cover(web, sheets, turns)
            papers = tuple([dice.choice([0, 1, 1, None, (1,)]) if trial % 2 else dice.randrange(2) for _ in web.signs])
            for judge in judges:
                here = says(World(web, None, ()), papers, judge)
                there = says(World(told, None, ()), lifted(papers, below), judge)
                self.assertEqual(there, tuple([here[k] for k in below]))

    def test_named_houses_by_a_book(self):
        dice = dice_of(10)
        book = random_book(dice, 2, 2, 50)
        for signs in itertools.product(range(2), repeat=3):
            web = ring_web(signs)
            told, below = cover(web, 2, ((0, 1), (1, 0), (0, 1)))
            papers = (0, 1, 1)
            here = says(World(web, (7, 3, 5), ()), papers, book_judge(book))
            there = says(World(told, (9, 1, 8, 2, 7, 3), ()), lifted(papers, below), book_judge(book))
            self.assertEqual(there, tuple([here[k] for k in below]))


class LaidOverTest(unittest.TestCase):
    def test_laid_over(self):
        for times in (2, 3, 4):
            for many in (3, 4, 12):
                signs = (1, 2, 3, 0) * 3
                papers = tuple([(k,) for k in range(many)])
                world, told = laid_over(lambda seen: True, signs[:many], papers, times)
                size = many * times
                self.assertEqual(told, papers * times)
                self.assertEqual(world.web.signs, signs[:many] * times)
                self.assertEqual(world.web.ties, tuple(sorted(
                    [(0, size - 1, 0)] + [(k, k + 1, 0) for k in range(size - 1)])))
                self.assertEqual((world.names, world.picked, kind(world.web)), (None, (), "ring"))

    def test_all_say_yes_and_two_houses_have_the_sign(self):
        def judge(seen):
            steps = sorted([row[4] for row in seen[1]] + [seen[0][2]])
            return steps == [0, 1, 2] and (seen[0][1] == 1) == (seen[0][2] == 0)

        world, papers = laid_over(judge, (1, 0, 0), (0, 1, 2), 2)
        self.assertTrue(all_yes(world, papers, judge))
        self.assertEqual(world.web.signs.count(1), 2)

    def test_errors_in_order(self):
        def odd(seen):
            return None

        def never(seen):
            return False

        good = ((0, 0, 0), (0, 0, 0), 2)
        for signs in [(), (0, 0), (0,) * 13, (0, 0, 4), [0, 0, 0], (0, 0, True), (0, 0, -1), *odd_things()]:
            with self.assertRaises(NoSigns):
                laid_over(odd, signs, None, None)
        for papers in [(), (0, 0), (0, 0, 0, 0), [0, 0, 0], (0, 0, True), (0, 0, 10 ** 9), *odd_things()]:
            with self.assertRaises(NoPapers):
                laid_over(odd, good[0], papers, None)
        for times in [0, 1, 5, -1, *odd_things()]:
            with self.assertRaises(NoNumber):
                laid_over(odd, good[0], good[1], times)
        with self.assertRaises(BadJudge) as caught:
            laid_over(odd, *good)
        self.assertEqual(caught.exception.house, 0)
        with self.assertRaises(NotShown):
            laid_over(never, *good)

    def test_a_bad_judge_ahead_of_a_no(self):
        def judge(seen):
            return {0: False, 1: True, 2: 1}[seen[0][2]]

        with self.assertRaises(BadJudge) as caught:
            laid_over(judge, (0, 0, 0), (0, 1, 2), 2)
        self.assertEqual(caught.exception.house, 2)
        with self.assertRaises(NotShown):
            laid_over(judge, (0, 0, 0), (1, 1, 0), 2)
        with self.assertRaises(KeyError):
            laid_over(judge, (0, 0, 0), (1, 1, 3), 2)


if __name__ == "__main__":
    unittest.main()
