"""Points 2.1 to 2.3: worlds, papers, views and judges."""

import functools
import itertools
import unittest

from nearpapers.errors import BadJudge, NoHouse, NoNames, NoPapers, NoPicked
from nearpapers.webs import Web
from nearpapers.worlds import World, all_yes, says, view
from tests.helper import dice_of, nested, odd_things, plain_near, random_web, row_web

ROW = row_web(3, (0, 1, 2))
V = World(Web((0, 1, 0), ((0, 1, 0), (1, 2, 0))), (5, 9, 2), (0,))


class WorldTest(unittest.TestCase):
    def test_attributes(self):
        world = World(ROW, (0, 999999, 7), (0, 1))
        self.assertEqual((world.web, world.names, world.picked), (ROW, (0, 999999, 7), (0, 1)))
        self.assertIsNone(World(ROW, None, ()).names)

    def test_no_names(self):
        odd = [thing for thing in odd_things() if thing is not None]
        for names in [(), (1, 2), (1, 2, 3, 4), (1, 2, 3, 3), (1, 2, 1), (1, 2, 1000000),
                      (1, 2, -1), (1, True, 2), [1, 2, 3], *odd]:
            for picked in [(), None, (5,)]:
                with self.assertRaises(NoNames):
                    World(ROW, names, picked)

    def test_no_picked(self):
        for picked in [(2,), (0, 0), (1, 0), (0, 1, 2), (True,), (-1,), [0], [], *odd_things()]:
            for names in [None, (1, 2, 3)]:
                with self.assertRaises(NoPicked):
                    World(ROW, names, picked)

    def test_equal(self):
        self.assertTrue(World(ROW, (1, 2, 3), (0,)) == World(row_web(3, (0, 1, 2)), (1, 2, 3), (0,)))
        others = [World(ROW, (1, 2, 4), (0,)), World(ROW, None, (0,)), World(ROW, (1, 2, 3), ()),
                  World(row_web(3), (1, 2, 3), (0,)), ROW, *odd_things()]
        for other in others:
            self.assertFalse(World(ROW, (1, 2, 3), (0,)) == other)
        self.assertFalse(ROW == World(ROW, None, ()))


class PapersTest(unittest.TestCase):
    def is_paper(self, thing):
        world = World(Web((0,), ()), None, ())
        try:
            self.assertEqual(view(world, (thing,), 0), ((None, 0, thing), ()))
            self.assertEqual(says(world, (thing,), lambda seen: True), (True,))
            return True
        except NoPapers:
            with self.assertRaises(NoPapers):
                says(world, (thing,), lambda seen: True)
            with self.assertRaises(NoPapers):
                all_yes(world, (thing,), lambda seen: True)
            return False

    def test_numbers_and_none(self):
        for thing in [None, 0, 999999999]:
            self.assertTrue(self.is_paper(thing))
        for thing in [1000000000, 10 ** 19, -1, True, False, "1", b"1", [], [1], {}, ROW, 1 == 1]:
            self.assertFalse(self.is_paper(thing))
            self.assertFalse(self.is_paper((thing,)))

    def test_three_deep_and_four_deep(self):
        for thing in [(), ((),), (((),),), (((1, None),), 2), ((0,), ((0,), ()))]:
            self.assertTrue(self.is_paper(thing))
        for thing in [((((),),),), ((((1,),),),), (1, (2, (3, (4,)))), nested(1, 4, tuple), nested(1, 40, tuple),
                      (([1],),), nested(1, 2, list)]:
            self.assertFalse(self.is_paper(thing))

    def test_items(self):
        self.assertTrue(self.is_paper((0,) * 200))
        self.assertFalse(self.is_paper((0,) * 201))
        self.assertTrue(self.is_paper(((),) * 200))
        self.assertFalse(self.is_paper((((),) * 201,)))
        self.assertFalse(self.is_paper((((0,) * 201,),)))

    def test_numbers_and_none_together(self):
        self.assertTrue(self.is_paper(((0, None) * 100,) * 10))
        self.assertTrue(self.is_paper(((1, None) * 100,) * 10 + ((), ((),))))
        self.assertFalse(self.is_paper(((0, None) * 100,) * 10 + (0,)))
        self.assertFalse(self.is_paper(((0, None) * 100,) * 10 + (((), None),)))
        self.assertFalse(self.is_paper((((0,) * 200,) * 200,)))

    def test_one_for_each_house(self):
        for papers in [(), (0, 0), (0, 0, 0, 0), [0, 0, 0], None, (0, 0, True), "000", 3, *odd_things()]:
            for house in [0, 3, None]:
                with self.assertRaises(NoPapers):
                    view(V, papers, house)
            with self.assertRaises(NoPapers):
                says(V, papers, None)
            with self.assertRaises(NoPapers):
                all_yes(V, papers, None)


def plain_less(one, other):
    """Whether one paper is ahead of the other one, by the words of 2.2."""
    rank = [0 if paper is None else 2 if isinstance(paper, tuple) else 1 for paper in (one, other)]
    if rank[0] != rank[1]:
        return rank[0] < rank[1]
    if rank[0] == 1:
        return one < other
    if rank[0] == 2:
        for a, b in zip(one, other):
            if a != b:
                return plain_less(a, b)
        return len(one) < len(other)
    return False


def plain_row_less(one, other):
    if one[1:4] != other[1:4]:
        return one[1:4] < other[1:4]
    return plain_less(one[4], other[4])


class ViewTest(unittest.TestCase):
    def plain_near_rows(self, world, papers, house):
        rows = []
        for other in plain_near(world.web, house):
            pair = tuple(sorted((house, other)))
            at = [tie[:2] for tie in world.web.ties].index(pair)
            name = world.names and world.names[other]
            rows.append((name, world.web.ties[at][2], at in world.picked, world.web.signs[other], papers[other]))
        return rows

    def test_named_houses(self):
        dice = dice_of(5)
        papers_at_hand = [None, 3, (), (1, None), ((2,), 1)]
        for many in range(1, 9):
            web = random_web(dice, many, weights=4)
            names = tuple(dice.sample(range(1000000), many))
            picked = tuple([k for k in range(len(web.ties)) if dice.randrange(2)])
            papers = tuple([dice.choice(papers_at_hand) for _ in range(many)])
            for house in range(many):
                near = tuple(sorted(self.plain_near_rows(World(web, names, picked), papers, house),
                                    key=lambda row: row[0]))
                told = view(World(web, names, picked), papers, house)
                self.assertEqual(told, ((names[house], web.signs[house], papers[house]), near))
                for row in told[1]:
                    self.assertIsInstance(row[2], bool)

    def test_nameless_houses(self):
        dice = dice_of(6)
        papers_at_hand = [None, 0, 3, (), (1,), (1, None), (None, 1), (1, 0), ((),), (1, ()), ((2,), 1), (((0,),),)]
        key = functools.cmp_to_key(lambda a, b: -1 if plain_row_less(a, b) else plain_row_less(b, a))
        for trial in range(60):
            web = random_web(dice, 9, signs=2, more=12, weights=2)
            picked = tuple([k for k in range(len(web.ties)) if dice.randrange(2)])
            papers = tuple([dice.choice(papers_at_hand) for _ in range(9)])
            world = World(web, None, picked)
            for house in range(9):
                near = tuple(sorted(self.plain_near_rows(world, papers, house), key=key))
                self.assertEqual(view(world, papers, house), ((None, web.signs[house], papers[house]), near))

    def test_order_of_papers(self):
        star = Web((0,) * 9, tuple([(0, k, 0) for k in range(1, 9)]))
        papers = ((1, 2), (1,), (1, None), (0, 5, 5), 7, 0, None, ())
        near = view(World(star, None, ()), (0, *papers), 0)[1]
        self.assertEqual([row[4] for row in near], [None, 0, 7, (), (0, 5, 5), (1,), (1, None), (1, 2)])

    def test_weight_then_flag_then_sign_then_paper(self):
        star = Web((0, 0, 1, 0, 0, 3), ((0, 1, 5), (0, 2, 2), (0, 3, 2), (0, 4, 2), (0, 5, 0)))
        near = view(World(star, None, (1, 4)), (0, 0, 0, 4, 3, 0), 0)[1]
        self.assertEqual([row[1:] for row in near],
                         [(0, True, 3, 0), (2, False, 0, 3), (2, False, 0, 4), (2, True, 1, 0), (5, False, 0, 0)])

    def test_nameless_houses_see_no_numbers(self):
        web = Web((0, 1, 1, 1), ((0, 1, 0), (0, 2, 0), (0, 3, 0)))
        told = {view(World(web, None, ()), (0, *papers), 0) for papers in itertools.permutations((None, 1, (2,)))}
        self.assertEqual(len(told), 1)
        self.assertEqual(view(World(Web((2,), ()), None, ()), (None,), 0), ((None, 2, None), ()))

    def test_no_house(self):
        for house in [3, -1, 10 ** 19, *odd_things()]:
            with self.assertRaises(NoHouse):
                view(V, (0, 0, 0), house)


class SaysTest(unittest.TestCase):
    def test_told_in_order_once_each(self):
        asked = []

        def judge(seen):
            asked.append(seen)
            return seen[0][0] != 9

        self.assertEqual(says(V, (1, None, (2,)), judge), (True, False, True))
        self.assertEqual(asked, [view(V, (1, None, (2,)), house) for house in range(3)])

    def test_bad_judge_at_once(self):
        for told in [None, 0, 1, "yes", (), [], 1 + 0j, 1.0, {True}, V, NotImplemented, (True,)]:
            for first in range(3):
                asked = []

                def judge(seen):
                    asked.append(seen)
                    return told if len(asked) > first else True

                for function in [says, all_yes]:
                    asked.clear()
                    with self.assertRaises(BadJudge) as caught:
                        function(V, (0, 0, 0), judge)
                    self.assertEqual((caught.exception.house, len(asked)), (first, first + 1))

    def test_all_yes(self):
        for flags in itertools.product([True, False], repeat=3):
            at = {5: 0, 9: 1, 2: 2}
            self.assertIs(all_yes(V, (0, 0, 0), lambda seen: flags[at[seen[0][0]]]), all(flags))

    def test_errors_of_the_judge_go_on(self):
        def judge(seen):
            raise KeyError("own")

        for function in [says, all_yes]:
            with self.assertRaises(KeyError):
                function(V, (0, 0, 0), judge)
            with self.assertRaises(NoPapers):
                function(V, (0, 0), judge)


if __name__ == "__main__":
    unittest.main()
