"""Point 1.3: forms of trees."""

import itertools
import unittest

from nearpapers.errors import NoForm, NoNumber, NoTree
from nearpapers.forms import form, tree_of, trees
from nearpapers.webs import Web, kind, renumbered, slim
from tests.helper import dice_of, nested, odd_things, plain_near, random_slim_tree, random_web, ring_web, row_web


def plain_hung(web, house, up):
    below = [plain_hung(web, other, house) for other in plain_near(web, house) if other != up]
    return (web.signs[house], tuple(sorted(below)))


def plain_form(web):
    return min(plain_hung(web, house, None) for house in range(web.many))


def row_form(many):
    """The form of so many houses of sign 0 in a row, three at least: least where a leaf is next to the root."""
    below = (0, ())
    for _ in range(many - 3):
        below = (0, (below,))
    return (0, ((0, ()), below))


class FormTest(unittest.TestCase):
    def test_against_hanging_up_everywhere(self):
        dice = dice_of(3)
        for many in range(1, 14):
            for _ in range(5):
                web = random_web(dice, many, signs=3, more=0, weights=9)
                self.assertEqual(form(web), plain_form(web))
        star = Web((1,) * 16, tuple([(0, k, 0) for k in range(1, 16)]))
        self.assertEqual(form(star), (1, ((1, ()),) * 15))

    def test_no_tree(self):
        for web in [ring_web((0, 0, 0)), Web((0,) * 4, ((0, 1, 0), (0, 2, 0), (1, 2, 0), (2, 3, 0)))]:
            with self.assertRaises(NoTree):
                form(web)

    def test_one_form_exactly_if_led_into_one_another(self):
        webs = []
        for signs in itertools.product(range(2), repeat=4):
            webs.append(Web(signs, ((0, 1, 0), (1, 2, 0), (2, 3, 7))))
            webs.append(Web(signs, ((0, 1, 0), (0, 2, 1), (0, 3, 0))))
        for one in webs:
            moved = [renumbered(one, order) for order in itertools.permutations(range(4))]
            shapes = [(web.signs, [tie[:2] for tie in web.ties]) for web in moved]
            for other in webs:
                alike = (other.signs, [tie[:2] for tie in other.ties]) in shapes
                self.assertEqual(form(one) == form(other), alike)


class TreeOfTest(unittest.TestCase):
    def test_numbers_as_they_come(self):
        web = tree_of((0, ((0, ()), (1, ((0, ()), (2, ((3, ()),)))))))
        self.assertEqual(web, Web((0, 0, 1, 0, 2, 3), ((0, 1, 0), (0, 2, 0), (2, 3, 0), (2, 4, 0), (4, 5, 0))))
        self.assertEqual(tree_of((3, ())), Web((3,), ()))

    def test_back_and_forth(self):
        dice = dice_of(4)
        for many in range(1, 15):
            web = random_slim_tree(dice, many, 4)
            again = tree_of(form(web))
            self.assertEqual(form(again), form(web))
            self.assertEqual({tie[2] for tie in again.ties} | {0}, {0})

    def test_sixty_houses_and_sixty_one(self):
        self.assertEqual(tree_of(row_form(60)).many, 60)
        self.assertEqual(form(tree_of(row_form(60))), row_form(60))
        with self.assertRaises(NoForm):
            tree_of(row_form(61))
        with self.assertRaises(NoForm):
            tree_of(row_form(200))

    def test_bushy_trees_of_sixty(self):
        forms = [(0, ())]
        for many in range(2, 61):
            grown = tree_of(forms[-1])
            near = [plain_near(grown, house) for house in range(grown.many)]
            house = min([k for k in range(grown.many) if len(near[k]) < 3], key=lambda k: (-len(near[k]), k))
            ties = [(a, b) for a, b, _ in grown.ties] + [(house, many - 1)]
            forms.append(self.form_of_ties(ties, many))
        web = tree_of(forms[-1])
        self.assertEqual((web.many, kind(web), slim(web), form(web)), (60, "tree", True, forms[-1]))

    def form_of_ties(self, ties, many):
        near = [[] for _ in range(many)]
        for a, b in ties:
            near[a].append(b)
            near[b].append(a)

        def hung(house, up):
            return (0, tuple(sorted([hung(k, house) for k in near[house] if k != up])))

        return min(hung(house, None) for house in range(many))

    def test_no_form(self):
        leaf = (0, ())
        wrong = [
            (), (0,), (0, (), ()), (4, ()), (-1, ()), (True, ()), ("0", ()), (0, []), [0, ()], (0, None), (0, (0,)),
            (0, ([0, ()],)), (0, ((0, [leaf]),)),
            (1, (leaf,)),                                # hung up at another house it is less
            (0, ((1, ()), leaf)),                        # not in order
            (0, ((0, (leaf,)),)),                        # the middle is the root of a row of three
            (0, (leaf, leaf, leaf, leaf)),               # four neighbours
            (0, (leaf, (0, (leaf, leaf, leaf)))),        # four neighbours further down
            (0, ((1, ((1, ()),) * 3),)),                 # the least form of a tree that is not slim
            (0, ((False, ()),)),
        ]
        for thing in [*wrong, *odd_things(), nested(leaf, 20, tuple), (0, nested(0, 38, tuple))]:
            with self.assertRaises(NoForm):
                tree_of(thing)

    def test_many_branches(self):
        with self.assertRaises(NoForm):
            tree_of((0, ((0, ()),) * 9000))


class TreesTest(unittest.TestCase):
    def plain_trees(self, signs, many):
        """All forms, from all slim trees with numbered houses."""
        pairs = list(itertools.combinations(range(many), 2))
        found = []
        for ties in itertools.combinations(pairs, many - 1):
            degrees = [sum(house in tie for tie in ties) for house in range(many)]
            if max([0, *degrees]) > 3:
                continue
            try:
                web = Web((0,) * many, tuple([(a, b, 0) for a, b in ties]))
            except ValueError:
                continue
            for row in itertools.product(range(signs), repeat=many):
                found.append(plain_form(Web(row, web.ties)))
        return tuple(sorted(set(found)))

    def test_against_all_numbered_trees(self):
        for signs, many in [(1, 1), (1, 2), (1, 5), (1, 6), (2, 1), (2, 4), (3, 1), (3, 2), (3, 4)]:
            self.assertEqual(trees(signs, many), self.plain_trees(signs, many))

    def test_how_many(self):
        self.assertEqual([len(trees(1, many)) for many in range(1, 9)], [1, 1, 1, 2, 2, 4, 6, 11])
        self.assertEqual([len(trees(2, many)) for many in range(1, 7)], [2, 3, 6, 18, 44, 145])
        self.assertEqual([len(trees(3, many)) for many in range(1, 5)], [3, 6, 18, 75])

    def test_ascending_and_each_once(self):
        for signs, many in [(1, 8), (2, 6), (3, 4)]:
            forms = trees(signs, many)
            self.assertEqual(list(forms), sorted(set(forms)))
            for one in forms:
                web = tree_of(one)
                self.assertEqual((web.many, slim(web), max(web.signs) < signs), (many, True, True))

    def test_no_number(self):
        for signs in [0, 4, -1, *odd_things()]:
            with self.assertRaises(NoNumber):
                trees(signs, 1)
        for signs, most in [(1, 8), (2, 6), (3, 4)]:
            trees(signs, most)
            for many in [0, most + 1, -1, *odd_things()]:
                with self.assertRaises(NoNumber):
                    trees(signs, many)
        with self.assertRaises(NoNumber):
            trees(None, None)


if __name__ == "__main__":
    unittest.main()
