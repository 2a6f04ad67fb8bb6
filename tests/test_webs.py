"""Points 1.1 and 1.2: webs."""

import itertools
import unittest

from nearpapers.covers import cover
from nearpapers.errors import BadWeb, NoHouse, NoOrder
from nearpapers.forms import tree_of
from nearpapers.webs import Web, distances, kind, neighbours, renumbered, slim
from tests.helper import dice_of, odd_things, plain_near, random_web, ring_web, row_web

RING = ring_web((1, 0, 0))


class WebTest(unittest.TestCase):
    def part_of(self, signs, ties):
        with self.assertRaises(BadWeb) as caught:
            Web(signs, ties)
        return caught.exception.part

    def test_attributes(self):
        web = Web((0, 3, 1), ((0, 1, 999), (1, 2, 0)))
        self.assertEqual((web.signs, web.ties, web.many), ((0, 3, 1), ((0, 1, 999), (1, 2, 0)), 3))

    def test_one_house_and_sixteen(self):
        self.assertEqual(Web((3,), ()).many, 1)
        self.assertEqual(row_web(16).many, 16)
        full = tuple([(a, b, 999) for a in range(16) for b in range(a + 1, 16)])
        self.assertEqual(Web((0,) * 16, full).ties, full)

    def test_signs(self):
        seventeen = tuple([(k, k + 1, 0) for k in range(16)])
        for signs in [(), (4,), (0, 4), (-1,), (True,), (0, False), [0], ("0",), (0,) * 17, *odd_things()]:
            self.assertEqual(self.part_of(signs, ()), "signs")
            self.assertEqual(self.part_of(signs, seventeen), "signs")
            self.assertEqual(self.part_of(signs, None), "signs")

    def test_no_tuple_of_ties(self):
        for ties in [None, [], [(0, 1, 0)], "", 0, True, RING, {}]:
            self.assertEqual(self.part_of((0, 0), ties), -1)

    def test_a_tie_that_is_none(self):
        wrong = [(0, 1), (0, 1, 0, 0), [0, 1, 0], (1, 0, 0), (0, 0, 0), (0, 3, 0), (0, 1, 1000), (0, 1, -1),
                 (True, 2, 0), (0, True, 0), (0, 1, False), (0, 1, None), ("0", 1, 0), (-1, 1, 0), *odd_things()]
        for tie in wrong:
            self.assertEqual(self.part_of((0, 0, 0), (tie, (1, 2, 0))), 0)
            self.assertEqual(self.part_of((0, 0, 0), ((0, 1, 0), (0, 2, 0), tie)), 2)
        self.assertEqual(self.part_of((0,), ((0, 1, 0),)), 0)

    def test_ties_out_of_order_or_twice(self):
        self.assertEqual(self.part_of((0, 0, 0), ((1, 2, 0), (0, 1, 0))), 1)
        self.assertEqual(self.part_of((0, 0, 0), ((0, 1, 0), (0, 1, 0))), 1)
        self.assertEqual(self.part_of((0, 0, 0), ((0, 1, 0), (0, 1, 5), (1, 2, 0))), 1)
        self.assertEqual(self.part_of((0, 0, 0), ((0, 2, 0), (0, 1, 9))), 1)
        self.assertEqual(self.part_of((0, 0, 0), ((0, 1, 0), (0, 2, 0), (0, 2, 1), None)), 2)

    def test_joined(self):
        self.assertEqual(self.part_of((0, 0), ()), "joined")
        self.assertEqual(self.part_of((0, 0, 0, 0), ((0, 1, 0), (2, 3, 0))), "joined")
        self.assertEqual(self.part_of((0, 0, 0, 0), ((0, 1, 0), (0, 2, 0), (1, 2, 0))), "joined")
        self.assertEqual(self.part_of((0, 0, 0), ((1, 2, 0),)), "joined")

    def test_equal(self):
        self.assertTrue(Web((0, 1), ((0, 1, 2),)) == Web((0, 1), ((0, 1, 2),)))
        self.assertFalse(Web((0, 1), ((0, 1, 2),)) != Web((0, 1), ((0, 1, 2),)))
        for other in [Web((0, 0), ((0, 1, 2),)), Web((0, 1), ((0, 1, 3),)), *odd_things(), ((0, 1), ((0, 1, 2),))]:
            self.assertFalse(Web((0, 1), ((0, 1, 2),)) == other)

    def test_arguments_stay(self):
        with self.assertRaises(BadWeb):
            Web([0], [])
        ties = [(0, 1, 0)]
        web = Web((0, 0), tuple(ties))
        ties.append(None)
        self.assertEqual(web.ties, ((0, 1, 0),))


class FunctionsTest(unittest.TestCase):
    def test_neighbours_and_distances(self):
        dice = dice_of(1)
        for many in range(1, 12):
            web = random_web(dice, many)
            for house in range(many):
                self.assertEqual(neighbours(web, house), tuple(plain_near(web, house)))
                self.assertEqual(distances(web, house), self.plain_distances(web, house))

    def plain_distances(self, web, house):
        far = [0 if k == house else 99 for k in range(web.many)]
        for _ in range(web.many):
            for a, b, _ in web.ties:
                far[a] = min(far[a], far[b] + 1)
                far[b] = min(far[b], far[a] + 1)
        return tuple(far)

    def test_no_house(self):
        for house in [3, 4, 10 ** 19, -1, *odd_things()]:
            with self.assertRaises(NoHouse):
                neighbours(RING, house)
            with self.assertRaises(NoHouse):
                distances(RING, house)
        self.assertEqual(neighbours(Web((0,), ()), 0), ())
        self.assertEqual(distances(Web((0,), ()), 0), (0,))

    def test_kind(self):
        self.assertEqual(kind(Web((0,), ())), "tree")
        self.assertEqual([kind(row_web(many)) for many in (2, 3, 16)], ["tree"] * 3)
        self.assertEqual([kind(ring_web((0,) * many)) for many in (3, 4, 16)], ["ring"] * 3)
        tail = Web((0,) * 4, ((0, 1, 0), (0, 2, 0), (1, 2, 0), (2, 3, 0)))
        full = Web((0,) * 4, tuple([(a, b, 0) for a, b in itertools.combinations(range(4), 2)]))
        self.assertEqual([kind(tail), kind(full)], ["other", "other"])

    def test_slim(self):
        star = [Web((0,) * (many + 1), tuple([(0, k, 0) for k in range(1, many + 1)])) for many in (1, 2, 3, 4, 15)]
        self.assertEqual([slim(web) for web in star], [True, True, True, False, False])
        self.assertIs(slim(RING), True)
        self.assertIs(slim(Web((0,), ())), True)

    def test_renumbered(self):
        web = Web((0, 1, 2), ((0, 1, 5), (1, 2, 7)))
        self.assertEqual(renumbered(web, (2, 0, 1)), Web((1, 2, 0), ((0, 1, 7), (0, 2, 5))))
        dice = dice_of(2)
        for many in range(1, 10):
            web = random_web(dice, many, weights=1000)
            order = list(range(many))
            dice.shuffle(order)
            other = renumbered(web, tuple(order))
            self.assertEqual(Web(other.signs, other.ties), other)
            self.assertEqual([other.signs[k] for k in order], list(web.signs))
            back = [order.index(k) for k in range(many)]
            self.assertEqual(renumbered(other, tuple(back)), web)

    def test_no_order(self):
        for order in [(), (0, 1), (0, 1, 2, 3), (0, 1, 1), (0, 1, 2, 2), (0, 1, 3), [0, 1, 2],
                      (0, True, 2), (0, 1, -1), (0, 1, "2"), *odd_things()]:
            with self.assertRaises(NoOrder):
                renumbered(RING, order)

    def test_returned_webs_beyond_the_bounds(self):
        turns = ((1, 2, 3, 0),) + ((0, 1, 2, 3),) * 15
        big = cover(ring_web((0, 1) * 8), 4, turns)[0]
        self.assertEqual(big.many, 64)
        self.assertEqual((kind(big), slim(big)), ("ring", True))
        self.assertEqual(max(distances(big, 5)), 32)
        order = tuple([(k + 1) % 64 for k in range(64)])
        moved = tuple(sorted([(k + 1) % 64 for k in neighbours(big, 0)]))
        self.assertEqual(neighbours(renumbered(big, order), 1), moved)
        path = (0, ())
        for _ in range(18):
            path = (0, (path,))
        path = (0, ((0, ()), path))
        self.assertEqual((tree_of(path).many, kind(tree_of(path))), (21, "tree"))


if __name__ == "__main__":
    unittest.main()
