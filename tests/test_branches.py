"""Points 4.4 and 4.5: which branches are unlike, which trees part knowers, which are known."""

import itertools
import unittest

from nearpapers.branches import alike, first_known, known, least, matching, parting, unlike_kinds
from nearpapers.bundles import place_of
from nearpapers.errors import NoNumber, OtherSigns, TooMany
from nearpapers.exchange import knower_of
from nearpapers.forms import tree_of, trees
from nearpapers.joining import both, either, turned
from nearpapers.knowers import Knower, knows
from nearpapers.knowing import big_knower
from nearpapers.webs import Web
from tests.helper import E, bundles, dice_of, houses_modulo, knower_by, knows_all, knows_none, odd_things, only_tree, random_book
from tests.helper import remainder, row_web, small_known, small_trees, some_knowers


def count_to(modulus, asked):
    """Knows the trees of one sign whose number of houses is what is asked, modulo any number of kinds."""
    bundles = [()] + [pair for one in range(modulus)
                      for pair in [(one,), *[(one, other) for other in range(one, modulus)]]]
    steps = tuple([(1 + sum(bundle)) % modulus for bundle in bundles])
    wholes = [(0, bundle) for many in range(4) for bundle in itertools.combinations_with_replacement(range(modulus), many)
              if (1 + sum(bundle)) % modulus == asked]
    return big_knower(1, modulus, (steps,), tuple(sorted(wholes)))


def perfect(height):
    """The tree of a house with two branches, each house of which has two or none, all of this height."""
    one = (0, ())
    for _ in range(height):
        one = (0, (one, one))
    return tree_of_branch(one)


def perfect_knower(height):
    """Knows the tree of perfect(height): kinds of whole branches, of what is left without one, and of all others."""
    whole = list(range(height))
    rest = list(range(height, 2 * height))
    steps = {(): 0, (height - 1,): rest[-1]}
    wholes = [(0, (height - 1, height - 1)), (0, (rest[0],))]
    for k in range(height - 1):
        steps[(k, k)] = whole[k + 1]
        steps[(k, rest[k + 1])] = rest[k]
        wholes.append((0, (k, k, rest[k + 1])))
    kinds = 2 * height + 1
    row = [steps.get(bundle, kinds - 1) for bundle in bundles(kinds, 2)]
    return big_knower(1, kinds, (tuple(row),), tuple(sorted(wholes)))


def tree_of_branch(one):
    """The tree of a branch, whatever its form."""
    signs, ties = [], []

    def put(branch, up):
        house = len(signs)
        signs.append(branch[0])
        if up is not None:
            ties.append((up, house, 0))
        for below in branch[1]:
            put(below, house)

    put(one, None)
    web = Web((0,), ())
    web.signs, web.ties, web.many = tuple(signs), tuple(sorted(ties)), len(signs)
    return web


def renamed(knower, order):
    """The same knower, kind k being called order[k]."""
    back = {called: kind for kind, called in enumerate(order)}
    return knower_by(
        knower.signs, knower.kinds,
        lambda sign, bundle: order[knower.steps[sign][place_of(knower.kinds, tuple(sorted([back[k] for k in bundle])))]],
        lambda sign, bundle: (sign, tuple(sorted([back[k] for k in bundle]))) in knower.wholes)


def plain_parting(one, other):
    """The least small tree of the fewest houses that parts two knowers, by trying all; None if no small one does."""
    for form, web in small_trees(one.signs):
        if knows(one, web) != knows(other, web):
            return form
    return None


def many_knowers():
    """Knowers of one and of two signs, some of them by books."""
    dice = dice_of(41)
    told = []
    for signs, marks in [(1, 2), (1, 3), (2, 1), (2, 2)]:
        for part in (15, 30, 50):
            for _ in range(4):
                try:
                    told.append(knower_of(random_book(dice, signs, marks, part)))
                except TooMany:
                    pass
    return told


class PartingTest(unittest.TestCase):
    def test_against_all_small_trees(self):
        found = {1: 0, 2: 0}
        for signs in (1, 2):
            pool = [k for k in [*some_knowers(signs), *many_knowers()] if k.signs == signs]
            for one in pool:
                for other in pool[:9]:
                    plain = plain_parting(one, other)
                    told = parting(one, other)
                    self.assertEqual(told, parting(other, one))
                    self.assertIs(alike(one, other), told is None)
                    if plain is not None:
                        found[signs] += 1
                        self.assertEqual(told, plain)
                    elif told is not None:
                        web = tree_of(told)
                        self.assertGreater(web.many, {1: 8, 2: 5}[signs])
                        self.assertNotEqual(knows(one, web), knows(other, web))
        self.assertGreater(min(found.values()), 60)

    def test_first_known_against_all_small_trees(self):
        for knower in [*many_knowers(), *[k for signs in (1, 2, 3) for k in some_knowers(signs)]]:
            plain = small_known(knower)
            told = first_known(knower)
            if plain:
                self.assertEqual(told, plain[0])
            elif told is not None:
                self.assertTrue(knows(knower, tree_of(told)))
            self.assertEqual(told, parting(knower, knows_none(knower.signs)))

    def test_the_least_form_of_the_fewest_houses(self):
        row = (0, ((0, ((0, ()),)),))
        self.assertEqual(first_known(only_tree(row_web(3), 1)), (0, ((0, ()), (0, ()))))
        self.assertEqual(first_known(houses_modulo(3, 4, 0)), trees(3, 4)[0])
        self.assertEqual(first_known(remainder(3, 7, 6)), min([one for one, web in small_trees(3) if sum(web.signs) == 6
                                                               and web.many == 3]))
        self.assertNotEqual(first_known(only_tree(row_web(3), 1)), row)
        for form, web in small_trees(2)[:40]:
            try:
                self.assertEqual(first_known(only_tree(web, 2)), form)
            except Exception as error:
                self.assertEqual(getattr(error, "part", None), "kinds")

    def test_none_is_known(self):
        for signs in (1, 2, 3):
            self.assertIsNone(first_known(knows_none(signs)))
            self.assertIsNone(parting(knows_none(signs), turned(knows_all(signs))))
        # What is known is known of kinds that no branch has.
        self.assertIsNone(first_known(Knower(1, 2, ((0,) * 6,), ((0, (0, 1, 1)), (0, (1,))))))

    def test_sixty_houses_and_more(self):
        for modulus in (24, 59, 60):
            told = first_known(count_to(modulus, 0))
            self.assertEqual(tree_of(told).many, modulus)
            self.assertEqual(told, parting(count_to(modulus, 0), knows_none(1)))
        for modulus in (61, 62, 70):
            for function in (lambda: first_known(count_to(modulus, 0)),
                             lambda: parting(knows_none(1), count_to(modulus, 0))):
                with self.assertRaises(TooMany) as caught:
                    function()
                self.assertEqual(caught.exception.most, 60)
            self.assertIs(alike(knows_none(1), count_to(modulus, 0)), False)
            self.assertIs(alike(count_to(modulus, 0), count_to(modulus, 0)), True)
            self.assertIsNone(parting(count_to(modulus, 0), count_to(modulus, 0)))
            self.assertEqual(first_known(count_to(modulus, 3)), trees(1, 3)[0])

    def test_great_trees_that_few_kinds_know(self):
        for height in (2, 3, 4):
            web = perfect(height)
            told = first_known(only_tree(web, 1))
            self.assertEqual(tree_of(told).many, 2 ** (height + 1) - 1)
            self.assertTrue(knows(only_tree(web, 1), web))
        knower = only_tree(perfect(5), 1)
        self.assertEqual(knower.kinds, 11)
        self.assertTrue(knows(knower, perfect(5)))
        for function in (lambda: first_known(knower), lambda: parting(knower, knows_none(1)),
                         lambda: parting(either(knower, E), E)):
            with self.assertRaises(TooMany):
                function()
        self.assertFalse(alike(knower, knows_none(1)))
        # Trees of very many houses are told by few kinds; they are not counted up to.
        for height in (5, 11, 40):
            with self.assertRaises(TooMany):
                first_known(perfect_knower(height))
            self.assertFalse(alike(perfect_knower(height), knows_none(1)))
        self.assertTrue(alike(perfect_knower(5), knower))
        self.assertEqual(least(perfect_knower(40)).kinds, 81)

    def test_other_signs(self):
        for function in (parting, alike, matching):
            for one, other in [(E, knows_all(2)), (knows_all(3), knows_all(2)), (knows_all(2), E)]:
                with self.assertRaises(OtherSigns):
                    function(one, other)


class LeastTest(unittest.TestCase):
    def test_alike_and_of_as_many_kinds_as_there_are_unlike_branches(self):
        for knower in [*many_knowers(), *[k for signs in (1, 2, 3) for k in some_knowers(signs)]]:
            told = least(knower)
            self.assertTrue(alike(told, knower))
            self.assertEqual(told.kinds, len(unlike_kinds(knower)))
            self.assertEqual(unlike_kinds(told), tuple(range(told.kinds)))
            self.assertEqual([knows(told, web) for _, web in small_trees(knower.signs)],
                             [knows(knower, web) for _, web in small_trees(knower.signs)])
            if told.kinds <= 12:
                self.assertTrue(told == Knower(told.signs, told.kinds, told.steps, told.wholes))

    def test_unlike_kinds(self):
        # Kind 3 is had by no branch; 1 and 2 are alike.
        def kind(sign, bundle):
            odd = (sum([k in (1, 2) for k in bundle]) + sign) % 2
            return 3 if 3 in bundle else 0 if odd == 0 else 1 + len(bundle) % 2

        knower = knower_by(2, 4, kind, lambda sign, bundle: 3 not in bundle and kind(sign, bundle) > 0)
        self.assertEqual(unlike_kinds(knower), (0, 1))
        self.assertEqual(least(knower).kinds, 2)
        self.assertTrue(alike(knower, remainder(2, 2, 1)))

    def test_only_the_least_of_those_that_are_alike(self):
        # All branches are alike, whatever is known of houses alone.
        for wholes in [(), ((0, ()),), ((0, ()), (1, ()))]:
            knower = Knower(2, 3, ((2, 1, 2, 1, 2, 1, 2, 1, 2, 1), (1,) * 10), wholes)
            self.assertEqual(unlike_kinds(knower), (1,))
            self.assertEqual(least(knower).kinds, 1)

    def test_brute_force(self):
        for knower in [E, remainder(2, 3, 1), houses_modulo(1, 5, 2), only_tree(row_web(5), 1), only_tree(row_web(4), 1)]:
            self.assertEqual(len(unlike_kinds(knower)), self.many_unlike(knower))

    def many_unlike(self, knower):
        """How many branches of few houses are unlike, tried by tying them to all branches of few houses."""
        branches = [[(sign, ()) for sign in range(knower.signs)]]
        for many in range(2, 6):
            rows = [(sign, (below,)) for sign in range(knower.signs) for below in branches[many - 2]]
            for left in range(1, many - 1):
                rows += [(sign, tuple(sorted([one, other]))) for sign in range(knower.signs)
                         for one in branches[left - 1] for other in branches[many - 2 - left]]
            branches.append(sorted(set(rows))[:40])
        every = [one for rows in branches for one in rows]
        return len({tuple([knows(knower, tree_of_branch((one[0], (*one[1], other)))) for other in every])
                    for one in every})

    def test_matching(self):
        dice = dice_of(43)
        for knower in [*[k for signs in (1, 2, 3) for k in some_knowers(signs)], *many_knowers()]:
            small = least(knower)
            self.assertEqual(matching(small, small), tuple(range(small.kinds)))
            if small.kinds <= 12:
                order = list(range(small.kinds))
                dice.shuffle(order)
                other = renamed(small, order)
                self.assertEqual(matching(small, other), tuple(order))
                self.assertEqual(matching(other, small), tuple([order.index(k) for k in range(small.kinds)]))

    def test_matching_of_others(self):
        spare = Knower(1, 2, ((0,) * 6,), ((0, ()), (0, (0,)), (0, (0, 0)), (0, (0, 0, 0))))
        self.assertTrue(alike(spare, knows_all(1)))
        self.assertIsNone(matching(spare, knows_all(1)))
        self.assertIsNone(matching(knows_all(1), spare))
        self.assertIsNone(matching(spare, spare))
        self.assertIsNone(matching(E, turned(E)))
        self.assertIsNone(matching(remainder(2, 2, 0), remainder(2, 2, 1)))
        twice = remainder(2, 4, 0)
        self.assertIsNone(matching(either(twice, remainder(2, 4, 2)), twice))
        # Sums that are even, told by four kinds.
        four = knower_by(2, 4, lambda sign, bundle: (sign + sum(bundle)) % 4,
                         lambda sign, bundle: (sign + sum(bundle)) % 2 == 0)
        self.assertTrue(alike(four, remainder(2, 2, 0)))
        self.assertIsNone(matching(four, remainder(2, 2, 0)))
        self.assertEqual(unlike_kinds(four), (0, 1))


class KnownTest(unittest.TestCase):
    def test_known(self):
        for signs in (1, 2, 3):
            for knower in some_knowers(signs):
                for many in range(1, 5):
                    self.assertEqual(known(knower, many), tuple(
                        [one for one in trees(signs, many) if knows(knower, tree_of(one))]))
        self.assertEqual(known(E, 3), ())
        self.assertEqual(known(E, 2), ((0, ((0, ()),)),))

    def test_numbers(self):
        for knower, most in [(E, 8), (knows_all(2), 6), (knows_all(3), 4)]:
            self.assertTrue(known(knower, most))
            for many in [0, most + 1, -1, 10 ** 19, *odd_things()]:
                with self.assertRaises(NoNumber):
                    known(knower, many)

    def test_great_knowers(self):
        met = both(remainder(2, 8, 3), remainder(2, 3, 0))
        self.assertEqual(met.kinds, 24)
        self.assertEqual(len(known(met, 3)), sum([sum(web.signs) == 3 and web.many == 3 for _, web in small_trees(2)]))


if __name__ == "__main__":
    unittest.main()
