"""Point 4.3: knowers turned and joined."""

import unittest

from nearpapers.branches import alike
from nearpapers.errors import OtherSigns, TooMany
from nearpapers.exchange import knower_of
from nearpapers.joining import both, either, turned
from nearpapers.knowers import Knower, knows
from nearpapers.knowing import big_knower
from nearpapers.webs import Web
from tests.helper import E, dice_of, houses_modulo, knows_all, knows_none, random_book, random_slim_tree, remainder
from tests.helper import small_trees, some_knowers


def of_many_kinds():
    """A knower, as knower_of tells it, of more than 24 kinds."""
    dice = dice_of(5)
    while True:
        try:
            knower = knower_of(random_book(dice, 2, 2, 20))
        except TooMany:
            continue
        if knower.kinds > 24:
            return knower


class JoiningTest(unittest.TestCase):
    def too_many(self, function, *arguments):
        with self.assertRaises(TooMany) as caught:
            function(*arguments)
        self.assertEqual(caught.exception.most, 24)

    def test_turned_on_all_small_trees(self):
        for signs in (1, 2, 3):
            for knower in some_knowers(signs):
                other = turned(knower)
                self.assertIsInstance(other, Knower)
                self.assertEqual(other.signs, signs)
                for _, web in small_trees(signs):
                    self.assertIs(knows(other, web), not knows(knower, web))
                self.assertTrue(alike(turned(other), knower))

    def test_joined_on_all_small_trees(self):
        for signs in (1, 2):
            knowers = some_knowers(signs)
            for one in knowers:
                for other in knowers:
                    met, some = both(one, other), either(one, other)
                    for _, web in small_trees(signs)[:60]:
                        truths = [knows(one, web), knows(other, web)]
                        self.assertIs(knows(met, web), all(truths))
                        self.assertIs(knows(some, web), any(truths))

    def test_what_is_told_is_sound(self):
        for one in some_knowers(2):
            for knower in [turned(one), both(one, remainder(2, 2, 0)), either(one, remainder(2, 3, 2))]:
                if knower.kinds <= 12:
                    self.assertTrue(knower == Knower(knower.signs, knower.kinds, knower.steps, knower.wholes))

    def test_just_twenty_four_kinds(self):
        dice = dice_of(31)
        one, other = remainder(2, 8, 3), remainder(2, 3, 1)
        met = both(one, other)
        for _ in range(30):
            web = random_slim_tree(dice, dice.randrange(1, 16), 2)
            self.assertEqual(knows(met, web), sum(web.signs) % 8 == 3 and sum(web.signs) % 3 == 1)
        self.assertEqual(both(met, met).kinds, 24)
        self.assertEqual(turned(met).kinds, 24)
        self.assertTrue(alike(either(met, knows_none(2)), met))
        self.assertTrue(alike(both(met, either(one, one)), met))

    def test_twenty_five_kinds(self):
        one, other = remainder(2, 5, 0), houses_modulo(2, 5, 0)
        self.too_many(both, one, other)
        self.too_many(either, one, other)
        # Of 144 pairs of kinds few are unlike: this is told.
        twelve = both(remainder(2, 12, 1), remainder(2, 12, 2))
        self.assertTrue(alike(twelve, knows_none(2)))
        self.assertTrue(alike(both(remainder(2, 12, 1), remainder(2, 4, 1)), remainder(2, 12, 1)))

    def test_one_as_it_stands_has_more(self):
        many = of_many_kinds()
        self.too_many(turned, many)
        for few in [knows_all(2), knows_none(2)]:
            for function in (both, either):
                self.too_many(function, many, few)
                self.too_many(function, few, many)
        wide = big_knower(1, 25, ((0,) * 351,), ())
        self.too_many(both, wide, E)
        self.too_many(either, E, wide)

    def test_other_signs_first(self):
        many = of_many_kinds()
        for function in (both, either):
            for one, other in [(E, knows_all(2)), (knows_all(3), E), (many, E), (E, many)]:
                with self.assertRaises(OtherSigns):
                    function(one, other)

    def test_kinds_that_no_branch_has(self):
        spare = Knower(1, 3, ((0,) * 10,), ((0, ()), (0, (2, 2))))
        self.assertTrue(knows(turned(spare), Web((0, 0), ((0, 1, 0),))))
        self.assertFalse(knows(turned(spare), Web((0,), ())))
        self.assertTrue(alike(either(spare, E), either(E, spare)))


if __name__ == "__main__":
    unittest.main()
