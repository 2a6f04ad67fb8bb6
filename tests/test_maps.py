"""Point 9.1: maps."""

import unittest

from nearpapers.claims import is_true
from nearpapers.covers import cover
from nearpapers.errors import BadTest, NoNames, TooMany
from nearpapers.maps import map_judge, map_paper
from nearpapers.webs import Web, renumbered
from nearpapers.worlds import World, all_yes, is_paper, says, view
from tests.helper import dice_of, odd_things, random_web, ring_web, row_web

V = World(Web((0, 1, 0), ((0, 1, 0), (1, 2, 0))), (5, 9, 2), (0,))


def yes(world):
    return True


def some_world(dice, most=7):
    web = random_web(dice, dice.randrange(1, most), signs=3, weights=3)
    names = tuple(dice.sample(range(20), web.many))
    return World(web, names, tuple([k for k in range(len(web.ties)) if dice.randrange(2)]))


def turned_world(dice, world):
    """The same world, its houses numbered otherwise."""
    order = list(range(world.web.many))
    dice.shuffle(order)
    web = renumbered(world.web, tuple(order))
    names = tuple([world.names[order.index(k)] for k in range(web.many)])
    pairs = [{order[a], order[b]} for a, b, _ in [world.web.ties[k] for k in world.picked]]
    return World(web, names, tuple([k for k, tie in enumerate(web.ties) if set(tie[:2]) in pairs]))


def big_world(many):
    """A ring of more houses than a web may be made with."""
    sheets = 2 if many % 2 == 0 else 3
    below = ring_web((0,) * (many // sheets))
    turn = tuple([(k + 1) % sheets for k in range(sheets)])
    web, _ = cover(below, sheets, (turn,) + (tuple(range(sheets)),) * (below.many - 1))
    return World(web, tuple(range(many)), ())


class MapPaperTest(unittest.TestCase):
    def test_papers(self):
        self.assertEqual(map_paper(V), ((5, 9, 2), (0, 1, 0), ((0, 1, 0), (1, 2, 0)), (1, 0)))
        self.assertEqual(map_paper(World(Web((3,), ()), (0,), ())), ((0,), (3,), (), ()))
        dice = dice_of(101)
        for _ in range(30):
            world = some_world(dice)
            names, signs, ties, flags = map_paper(world)
            self.assertEqual((names, signs, ties), (world.names, world.web.signs, world.web.ties))
            self.assertEqual(flags, tuple([1 if k in world.picked else 0 for k in range(len(ties))]))
            self.assertFalse([flag for flag in flags if isinstance(flag, bool)])
            self.assertTrue(is_paper(map_paper(world)))

    def test_a_map_of_many_ties_is_a_paper(self):
        every = Web((0,) * 16, tuple([(a, b, 999) for a in range(16) for b in range(a + 1, 16)]))
        world = World(every, tuple(range(999984, 1000000)), tuple(range(120)))
        self.assertTrue(is_paper(map_paper(world)))
        self.assertTrue(all_yes(world, (map_paper(world),) * 16, map_judge(yes)))

    def test_errors_in_order(self):
        self.assertEqual([big_world(many).web.many for many in (16, 17 + 1, 21)], [16, 18, 21])
        self.assertEqual(len(map_paper(big_world(16))[0]), 16)
        for many in (18, 21):
            with self.assertRaises(TooMany) as caught:
                map_paper(big_world(many))
            self.assertEqual(caught.exception.most, 16)
            with self.assertRaises(NoNames):
                map_paper(World(big_world(many).web, None, ()))
        with self.assertRaises(NoNames):
            map_paper(World(row_web(2), None, ()))


class MapJudgeTest(unittest.TestCase):
    def test_all_say_yes_where_the_test_is_true(self):
        dice = dice_of(102)
        for _ in range(80):
            world = some_world(dice)
            papers = (map_paper(world),) * world.web.many
            self.assertEqual(says(world, papers, map_judge(yes)), (True,) * world.web.many)
            for claim in [("leader",), ("tree",), ("sides",), ("many", 4)]:
                truth = is_true(claim, world)
                told = says(world, papers, map_judge(lambda seen: is_true(claim, seen)))
                self.assertEqual(told, (truth,) * world.web.many)

    def test_whatever_the_numbers_of_the_houses(self):
        dice = dice_of(103)
        for _ in range(40):
            world = some_world(dice)
            other = turned_world(dice, world)
            self.assertTrue(all_yes(world, (map_paper(other),) * world.web.many, map_judge(yes)))

    def test_the_test_is_asked_of_the_world_of_the_map(self):
        asked = []

        def test(world):
            asked.append(world)
            return True

        self.assertTrue(all_yes(V, (map_paper(V),) * 3, map_judge(test)))
        for world in asked:
            self.assertIsInstance(world, World)
            self.assertEqual(world, V)
        self.assertGreaterEqual(len(asked), 3)

    def test_nobody_is_fooled_by_another_world(self):
        dice = dice_of(104)
        for _ in range(300):
            one, other = some_world(dice, 5), some_world(dice, 5)
            other = dice.choice([other, World(one.web, other.names[:0] + one.names, other.picked[:0]),
                                 World(other.web, tuple(range(other.web.many)), other.picked)])
            if self.key(one) == self.key(other):
                continue
            self.assertFalse(all_yes(one, (map_paper(other),) * one.web.many, map_judge(yes)))

    def key(self, world):
        """What worlds have alike that are one but for the numbers of their houses."""
        names = world.names
        ties = [(*sorted([names[a], names[b]]), weight, at in world.picked)
                for at, (a, b, weight) in enumerate(world.web.ties)]
        return (sorted(zip(names, world.web.signs)), sorted(ties))

    def test_one_thing_otherwise(self):
        names, signs, ties, flags = map_paper(V)
        for paper in [((5, 9, 3), signs, ties, flags), (names, (0, 1, 1), ties, flags), (names, (1, 1, 0), ties, flags),
                      (names, signs, ((0, 1, 0), (1, 2, 1)), flags), (names, signs, ((0, 1, 0), (0, 2, 0)), flags),
                      (names, signs, ((0, 1, 0), (0, 2, 0), (1, 2, 0)), (1, 0, 0)), (names, signs, ties, (0, 0)),
                      (names, signs, ties, (1, 1)), (names, signs, ties, (0, 1)), ((9, 5, 2), signs, ties, flags),
                      ((5, 9, 2, 3), (0, 1, 0, 0), ((0, 1, 0), (1, 2, 0), (2, 3, 0)), (1, 0, 0))]:
            self.assertIn(False, says(V, (paper,) * 3, map_judge(yes)))

    def test_no_map(self):
        names, signs, ties, flags = map_paper(V)
        wrong = [None, 0, (), (names, signs, ties), (names, signs, ties, flags, ()), (None, signs, ties, flags),
                 (names, signs, ties, (1,)), (names, signs, ties, (1, 0, 0)), (names, signs, ties, (1, 2)),
                 (names, signs, ties, (1, None)), (names, signs, ((1, 2, 0), (0, 1, 0)), flags), (names, signs, (), ()),
                 (names, signs, ((0, 1, 0),), (1,)), (names, signs, ((0, 1), (1, 2)), flags), ((5, 9), signs, ties, flags),
                 ((5, 9, 9), signs, ties, flags), ((5, 9, 10 ** 6), signs, ties, flags), (names, (0, 4, 0), ties, flags),
                 (names, (0, 1), ties, flags), (names, signs, ((0, 1, 0), (1, 2, 1000)), flags), (names, signs, ties, 1),
                 (names, signs, None, flags), (names, signs, ((0, 1, 0), (1, 2, 0), (1, 3, 0)), (1, 0, 0)), ((), (), (), ())]
        for paper in wrong:
            self.assertEqual(says(V, (paper,) * 3, map_judge(yes)), (False,) * 3)
            self.assertEqual(says(V, (paper,) * 3, map_judge(None)), (False,) * 3)

    def test_odd_things_for_papers(self):
        judge = map_judge(yes)
        for thing in odd_things():
            self.assertIs(judge(((1, 0, thing), ())), False)
            self.assertIs(judge(((1, 0, ((1,), (0,), (), thing)), ())), thing == () if isinstance(thing, tuple) else False)
        self.assertIs(judge(((1, 0, ((1,), (0,), (), ())), ())), True)
        self.assertIs(judge(((1, 0, [(1,), (0,), (), ()]), ())), False)
        self.assertIs(judge(((1, 1, ((1,), (1,), (), ())), ())), True)
        self.assertIs(judge(((1, 1, ((1,), (True,), (), ())), ())), False)

    def test_more_than_sixteen_houses(self):
        for many in (18, 21):
            world = big_world(many)
            paper = (world.names, world.web.signs, world.web.ties, (0,) * many)
            self.assertEqual(says(world, (paper,) * many, map_judge(yes)), (False,) * many)
            # The map of a smaller ring is no map of a greater one for all, though some houses stand in it.
            small = World(ring_web((0,) * 5), tuple(range(5)), ())
            flags = says(world, (map_paper(small),) * many, map_judge(yes))
            self.assertEqual(flags[2:4], (True,) * 2)
            self.assertFalse(all(flags))

    def test_neighbours_with_another_paper(self):
        paper = map_paper(V)
        for house in range(3):
            for other in [None, map_paper(turned_world(dice_of(105), V)), (*paper[:3], (1, 1))]:
                papers = tuple([other if k == house else paper for k in range(3)])
                flags = says(V, papers, map_judge(yes))
                if other != paper:
                    self.assertEqual(flags, tuple([[False, False, True], [False] * 3, [True, False, False]][house]))

    def test_nameless_houses(self):
        world = World(V.web, None, V.picked)
        self.assertEqual(says(world, (map_paper(V),) * 3, map_judge(yes)), (False,) * 3)

    def test_bad_tests(self):
        paper = map_paper(V)
        for thing in [0, 1, None, "yes", (), [True], 1 == 2 or None]:
            for house in range(3):
                with self.assertRaises(BadTest):
                    map_judge(lambda world: thing)(view(V, (paper,) * 3, house))
            # The test is asked last, where all else holds.
            for wrong in [None, (*paper[:3], (1, 1)), ((5, 9, 3), *paper[1:])]:
                self.assertIs(map_judge(lambda world: thing)(view(V, (wrong, paper, paper), 0)), False)
                self.assertIs(map_judge(lambda world: thing)(view(V, (paper, wrong, paper), 0)), False)
        for flag in (True, False):
            self.assertEqual(says(V, (paper,) * 3, map_judge(lambda world: flag)), (flag,) * 3)

    def test_errors_of_the_test_go_on(self):
        def test(world):
            raise KeyError(world.web.many)

        with self.assertRaises(KeyError):
            all_yes(V, (map_paper(V),) * 3, map_judge(test))


if __name__ == "__main__":
    unittest.main()
