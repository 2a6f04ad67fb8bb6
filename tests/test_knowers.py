"""Points 4.1 and 4.2: knowers."""

import unittest

from nearpapers.bundles import many_small, place_of, small_bundles
from nearpapers.errors import BadKnower, NoHouse, NoTree
from nearpapers.forms import tree_of, trees
from nearpapers.knowers import Knower, branch_kind, knows
from nearpapers.webs import Web, renumbered
from tests.helper import E, bundles, dice_of, knower_by, odd_things, plain_near, random_slim_tree, remainder, ring_web
from tests.helper import row_web


def plain_kind(knower, web, house, up):
    """What the steps tell of a branch, by going down from it."""
    below = tuple(sorted([plain_kind(knower, web, k, house) for k in plain_near(web, house) if k != up]))
    return knower.steps[web.signs[house]][bundles(knower.kinds, 2).index(below)]


def plain_knows(knower, web, root):
    bundle = tuple(sorted([plain_kind(knower, web, k, root) for k in plain_near(web, root)]))
    return (web.signs[root], bundle) in knower.wholes


class BundlesTest(unittest.TestCase):
    def test_places(self):
        for kinds in range(1, 14):
            told = small_bundles(list(range(kinds)))
            self.assertEqual(told, bundles(kinds, 2))
            self.assertEqual([place_of(kinds, bundle) for bundle in told], list(range(many_small(kinds))))


class KnowerTest(unittest.TestCase):
    def part_of(self, signs, kinds, steps, wholes):
        with self.assertRaises(BadKnower) as caught:
            Knower(signs, kinds, steps, wholes)
        return caught.exception.part

    def test_attributes(self):
        self.assertEqual((E.signs, E.kinds, E.steps), (1, 2, ((0, 1, 0, 1, 0, 0),)))
        self.assertEqual(E.wholes, ((0, (0,)), (0, (0, 0, 0)), (0, (0, 1)), (0, (0, 1, 1))))

    def test_twelve_kinds(self):
        knower = remainder(3, 12, 7)
        self.assertEqual((knower.kinds, len(knower.steps[0])), (12, 1 + 12 + 78))
        web = random_slim_tree(dice_of(18), 16, 3)
        self.assertEqual(knows(knower, web), sum(web.signs) % 12 == 7)

    def test_signs_and_kinds(self):
        for number in [0, 4, -1, *odd_things()]:
            self.assertEqual(self.part_of(number, 2, E.steps, E.wholes), "signs")
            self.assertEqual(self.part_of(number, None, None, None), "signs")
        for number in [0, 13, -1, *odd_things()]:
            self.assertEqual(self.part_of(1, number, E.steps, E.wholes), "kinds")
            self.assertEqual(self.part_of(1, number, None, None), "kinds")

    def test_steps(self):
        row = E.steps[0]
        wrong = [(), (row, row), [row], (list(row),), (row[:5],), (row + (0,),), ((0, 1, 0, 1, 0, 2),),
                 ((0, 1, 0, 1, 0, False),), ((0, True, 0, 1, 0, 0),), ((0, 1, 0, 1, 0, -1),), (None,), *odd_things()]
        for steps in wrong:
            self.assertEqual(self.part_of(1, 2, steps, E.wholes), "steps")
            self.assertEqual(self.part_of(1, 2, steps, None), "steps")
            self.assertEqual(self.part_of(1, 2, (steps,), E.wholes), "steps")
        self.assertEqual(self.part_of(2, 2, E.steps, E.wholes), "steps")
        self.assertEqual(self.part_of(1, 3, E.steps, E.wholes), "steps")

    def test_wholes(self):
        good = E.wholes
        wrong = [list(good), good[::-1], (good[0], good[0]), (*good[:2], good[3], good[2]), (*good, (0, (0,))),
                 (*good, (0, (1, 1, 1, 1))), (*good, (0, (1, 0))), (*good, (0, (2,))), (*good, (1, (0,))),
                 (*good, (0, [1])), (*good, [0, (1,)]), (*good, (0,)), (*good, (0, (1,), 0)), ((False, (0,)),),
                 ((0, (True,)),), ((0, (-1,)),), ((-1, (0,)),), [], None]
        for wholes in [*wrong, *odd_things()]:
            self.assertEqual(self.part_of(1, 2, E.steps, wholes), "wholes")
        for thing in odd_things():
            self.assertEqual(self.part_of(1, 2, E.steps, (thing,)), "wholes")
            self.assertEqual(self.part_of(1, 2, E.steps, ((0, thing),)), "wholes")
            self.assertEqual(self.part_of(1, 2, E.steps, ((thing, (0,)),)), "wholes")

    def test_sound(self):
        self.assertEqual(self.part_of(1, 2, E.steps, E.wholes[1:]), "sound")
        self.assertEqual(self.part_of(1, 2, E.steps, E.wholes[:3]), "sound")
        # A house alone is a tree that has one root.
        self.assertEqual(Knower(1, 2, E.steps, ((0, ()), *E.wholes)).wholes[0], (0, ()))

    def test_kinds_that_no_branch_has_mean_nothing(self):
        steps = ((0, 0, 0, 1, 1, 1),)
        for wholes in [((0, (1,)),), ((0, (0, 1, 1)),), ((0, (1, 1, 1)),), ((0, ()), (0, (0, 1)))]:
            self.assertEqual(Knower(1, 2, steps, wholes).wholes, wholes)
        self.assertEqual(self.part_of(1, 2, steps, ((0, (0,)),)), "sound")
        every = ((0, (0,)), (0, (0, 0)), (0, (0, 0, 0)))
        self.assertEqual(Knower(1, 2, steps, every).wholes, every)

    def test_sound_against_trees(self):
        dice = dice_of(19)
        webs = [tree_of(one) for many in range(1, 9) for one in trees(1, many)]
        told = {True: 0, False: 0}
        for trial in range(400):
            steps = (tuple([dice.randrange(2) for _ in range(6)]),)
            marks = [dice.randrange(2) for _ in range(4)]
            wholes = tuple([(0, bundle) for bundle in bundles(2, 3) if marks[(sum(bundle) + len(bundle)) % 4]])
            try:
                Knower(1, 2, steps, wholes)
                sound = True
            except BadKnower as error:
                self.assertEqual(error.part, "sound")
                sound = False
            told[sound] += 1
            self.assertEqual(self.one_answer(steps, wholes, webs), sound)
        self.assertGreater(min(told.values()), 20)

    def one_answer(self, steps, wholes, webs):
        """Whether the small trees, and trees of two branches of the least houses tied, tell one thing at all roots."""
        plain = type("Plain", (), {"steps": steps, "kinds": 2, "wholes": wholes})
        for web in webs + self.tied_branches(plain):
            if len({plain_knows(plain, web, root) for root in range(web.many)}) > 1:
                return False
        return True

    def tied_branches(self, plain):
        """Trees of two tops tied, on which hang least branches of all kinds there are."""
        least = {plain.steps[0][0]: (0, ())}
        for _ in range(2):
            for bundle in sorted(bundles(2, 2)):
                if all(k in least for k in bundle):
                    kind = plain.steps[0][bundles(2, 2).index(bundle)]
                    least.setdefault(kind, (0, tuple([least[k] for k in bundle])))
        tops = [tuple([least[k] for k in bundle]) for bundle in bundles(2, 2) if all(k in least for k in bundle)]
        return [self.web_of((0, ((0, two), *one))) for one in tops for two in tops]

    def web_of(self, branch):
        signs, ties = [], []

        def put(one, up):
            house = len(signs)
            signs.append(one[0])
            if up is not None:
                ties.append((up, house, 0))
            for below in one[1]:
                put(below, house)

        put(branch, None)
        return Web(tuple(signs), tuple(sorted(ties)))

    def test_equal(self):
        self.assertTrue(E == Knower(1, 2, E.steps, E.wholes))
        others = [Knower(1, 2, E.steps, ((0, ()), *E.wholes)), remainder(1, 2, 0), remainder(2, 2, 0), E.wholes]
        for other in others + odd_things():
            self.assertFalse(E == other)
        self.assertFalse(Knower(1, 1, ((0,) * 3,), ()) == Knower(1, 2, ((0,) * 6,), ()))
        self.assertFalse(Knower(1, 2, ((1,) * 6,), ()) == Knower(1, 2, ((0,) * 6,), ()))


class KnowsTest(unittest.TestCase):
    def test_pairs_that_leave_no_house_over(self):
        for many in range(1, 9):
            self.assertEqual(knows(E, row_web(many)), many % 2 == 0)

    def test_each_root_tells_the_same(self):
        dice = dice_of(20)
        for knower in [remainder(3, 2, 1), remainder(3, 5, 0), remainder(2, 12, 3), E]:
            for trial in range(20):
                web = random_slim_tree(dice, dice.randrange(1, 14), knower.signs)
                order = list(range(web.many))
                dice.shuffle(order)
                web = renumbered(web, tuple(order))
                told = knows(knower, web)
                self.assertIsInstance(told, bool)
                for house in range(web.many):
                    self.assertEqual(plain_knows(knower, web, house), told)
                    for up in plain_near(web, house):
                        self.assertEqual(branch_kind(knower, web, house, up), plain_kind(knower, web, house, up))

    def test_sixty_houses(self):
        row = (0, ())
        for _ in range(57):
            row = (0, (row,))
        web = tree_of((0, ((0, ()), row)))
        self.assertIs(knows(E, web), True)
        self.assertEqual(branch_kind(E, web, 59, 58), 0)

    def test_weights_mean_nothing(self):
        self.assertIs(knows(E, row_web(4, weight=999)), True)

    def test_no_tree(self):
        star = Web((0,) * 5, ((0, 1, 0), (0, 2, 0), (0, 3, 0), (0, 4, 0)))
        for web in [ring_web((0, 0, 0)), star, Web((1,), ()), row_web(3, (0, 0, 1)), row_web(2, (3, 0)),
                    Web((0,) * 4, ((0, 1, 0), (0, 2, 0), (1, 2, 0), (2, 3, 0)))]:
            with self.assertRaises(NoTree):
                knows(E, web)
            for house, up in [(0, 1), (99, 99), (None, True)]:
                with self.assertRaises(NoTree):
                    branch_kind(E, web, house, up)

    def test_no_house(self):
        web = row_web(4)
        for house in [4, -1, 10 ** 19, *odd_things()]:
            for other in [1, house]:
                with self.assertRaises(NoHouse):
                    branch_kind(E, web, house, other)
                with self.assertRaises(NoHouse):
                    branch_kind(E, web, other, house)
        for house, up in [(0, 0), (0, 2), (3, 1), (1, 3)]:
            with self.assertRaises(NoHouse):
                branch_kind(E, web, house, up)
        self.assertEqual(branch_kind(E, web, 1, 0), 0)
        self.assertEqual(branch_kind(E, web, 2, 1), 1)


if __name__ == "__main__":
    unittest.main()
