"""Points 10.1 to 10.3: rings of four, glued to rings of eight."""

import hashlib
import itertools
import unittest

from nearpapers.errors import BadJudge, NoMarks, NoNumber
from nearpapers.gluing import enough, fooled, four_ring, glued, is_fooling, shortest
from nearpapers.webs import Web
from nearpapers.worlds import World, view
from tests.helper import dice_of, nested, odd_things

RING = ((0, 1, 0), (0, 3, 0), (1, 2, 0), (2, 3, 0))
EIGHT = ((0, 1, 0), (0, 7, 0), (1, 2, 0), (2, 3, 0), (3, 4, 0), (4, 5, 0), (5, 6, 0), (6, 7, 0))
PAIRS = [(0, 1), (5, (1, None)), ((), None), (((0,), 1), 999999999), (7,), (None,), ((1,),), (1, 0)]


def plain_names(i, j):
    return (4 * i, 4 * i + 1, 4 * j + 2, 4 * j + 3)


def plain_views(names, signs, papers):
    """The views of houses round, by going round."""
    many = len(names)
    told = []
    for k in range(many):
        near = sorted([(names[other], 0, False, signs[other], papers[other])
                       for other in ((k - 1) % many, (k + 1) % many)], key=lambda row: row[0])
        told.append(((names[k], signs[k], papers[k]), tuple(near)))
    return told


def plain_paper(thing):
    """Whether a thing of those that these tests use is a paper."""
    if isinstance(thing, tuple):
        return all(map(plain_paper, thing))
    return thing is None or type(thing) is int and 0 <= thing < 10 ** 9


def of_marks(marks, many, thing):
    return isinstance(thing, tuple) and len(thing) == many and all(
        plain_paper(item) and any(item == mark for mark in marks) for item in thing)


def all_round_yes(world, papers, judge):
    return all([judge(seen) for seen in plain_views(world.names, world.web.signs, papers)])


def plain_fooling(judge, maker, marks, thing):
    """Whether a thing is a triple as 10.2 says, word by word."""
    if not isinstance(thing, tuple) or len(thing) != 3 or not isinstance(thing[1], World):
        return False
    word, world, told = thing
    if world.names is None or world.picked != ():
        return False
    if word == "unshown":
        if world.web.signs != (1, 0, 0, 0) or world.web.ties != RING:
            return False
        i, j = world.names[0] // 4, world.names[3] // 4
        if world.names != plain_names(i, j) or max(i, j) >= 200000:
            return False
        made = maker(four_ring(i, j))
        return made == told and not (of_marks(marks, 4, made) and all_round_yes(world, made, judge))
    if word == "fooled":
        if world.web.signs != (1, 0, 0, 0) * 2 or world.web.ties != EIGHT:
            return False
        a, b, c, d = [name // 4 for name in world.names[1::2]]
        if world.names != plain_names(a, b) + plain_names(c, d) or a == c or b == d or max(a, b, c, d) >= 200000:
            return False
        return of_marks(marks, 8, told) and all_round_yes(world, told, judge)
    return False


def chance(*things):
    """A number that goes by things alone."""
    return int.from_bytes(hashlib.md5(repr(things).encode()).digest()[:4], "big")


def some_makers(marks):
    """Makers that tell marks, by nothing, signs, names, tables; and some that tell something else here and there."""
    first, last = marks[0], marks[-1]
    pick = lambda *things: marks[chance(*things) % len(marks)]
    return [
        lambda world: (first,) * 4,
        lambda world: (last, first, first, last),
        lambda world: tuple([last if sign == 1 else first for sign in world.web.signs]),
        lambda world: tuple([pick(name) for name in world.names]),
        lambda world: tuple([pick(name, world.names) for name in world.names]),
        lambda world: tuple([pick(name // 4 % 3) for name in world.names]),
        lambda world: tuple([pick(world.names[0] + world.names[2] * 5 + k) for k in range(4)]),
        lambda world: (first,) * 4 if world.names[0] < 8 else [first] * 4,
        lambda world: (first,) * (4 if world.names[2] < 11 else 5),
        lambda world: (first,) * 4 if world.names[2] != 6 else None,
        lambda world: (first, first, True, first) if world.names[0] > 2 else (first, last, last, first),
        lambda world: world.names,
        lambda world: "1010",
        lambda world: 1.5,
        lambda world: nested(first, 30, tuple),
    ]


def some_judges():
    """Judges that say yes always, never, and by all that they see."""
    return [
        lambda seen: True,
        lambda seen: False,
        lambda seen: seen[0][1] == 1 or 1 in [row[3] for row in seen[1]] or seen[0][0] % 4 == 2,
        lambda seen: seen[0][2] == seen[1][0][4] or seen[0][0] % 2 == 0,
        lambda seen: seen[0][0] < 500,
        lambda seen: chance(seen) % 40 != 0,
        lambda seen: chance(seen[0][0]) % 3 != 0,
        lambda seen: all(abs(seen[0][0] - row[0]) < 60 for row in seen[1]),
        lambda seen: len({seen[0][2], *[row[4] for row in seen[1]]}) < 3,
    ]


class RingsTest(unittest.TestCase):
    def test_four_ring(self):
        for i, j in [(0, 0), (3, 5), (199999, 0), (0, 199999), (199999, 199999), (7, 7)]:
            world = four_ring(i, j)
            self.assertEqual(world, World(Web((1, 0, 0, 0), RING), plain_names(i, j), ()))
        self.assertEqual(four_ring(3, 5).names, (12, 13, 22, 23))

    def test_four_ring_no_number(self):
        for thing in [200000, -1, 10 ** 19, *odd_things()]:
            for pair in [(thing, 0), (0, thing), (thing, thing)]:
                with self.assertRaises(NoNumber):
                    four_ring(*pair)

    def test_glued(self):
        for a, b, c, d in [(0, 0, 1, 1), (3, 3, 5, 199999), (199999, 1, 0, 0), (2, 7, 7, 2)]:
            world = glued(a, b, c, d)
            names = plain_names(a, b) + plain_names(c, d)
            self.assertEqual(world, World(Web((1, 0, 0, 0, 1, 0, 0, 0), EIGHT), names, ()))
            self.assertEqual(world.web.signs.count(1), 2)

    def test_glued_no_number(self):
        for thing in [200000, -1, 10 ** 19, *odd_things()]:
            for at in range(4):
                row = [0, 1, 2, 3]
                row[at] = thing
                with self.assertRaises(NoNumber):
                    glued(*row)
        for row in [(4, 1, 4, 2), (1, 4, 2, 4), (0, 0, 0, 0), (0, 1, 0, 1)]:
            with self.assertRaises(NoNumber):
                glued(*row)

    def test_eight_see_what_four_see(self):
        dice = dice_of(101)
        for _ in range(30):
            a, c = dice.sample(range(200000), 2)
            b, d = dice.sample(range(200000), 2)
            papers = tuple([dice.choice([None, 3, (1, 2)]) for _ in range(4)])
            seen = [view(glued(a, b, c, d), papers * 2, house) for house in range(8)]
            rings = [view(four_ring(i, j), papers, house) for i in (a, c) for j in (b, d) for house in range(4)]
            for one in seen:
                self.assertIn(one, rings)
            self.assertEqual(seen, plain_views(glued(a, b, c, d).names, (1, 0, 0, 0) * 2, papers * 2))


class NumbersTest(unittest.TestCase):
    def test_enough(self):
        self.assertEqual([enough(many) for many in (1, 2, 3, 10, 100)], [4, 289, 6724, 100020001, 10000000200000001])
        for many in range(1, 101):
            self.assertEqual(enough(many), (many * many * many * many + 1) * (many * many * many * many + 1))
        for thing in [0, 101, -1, 10 ** 19, *odd_things()]:
            with self.assertRaises(NoNumber):
                enough(thing)

    def test_a_table_without_a_square_holds_few_of_one_row(self):
        for many in (1, 2):
            side = enough(many)
            root = many ** 4 + 1
            self.assertEqual(root * root, side)
            self.assertGreater(side * side, many ** 4 * (side * root + side))

    def test_shortest(self):
        self.assertEqual([shortest(names) for names in (1, 15, 16, 1155, 1156, 1000, 1000000)], [1, 1, 2, 2, 3, 2, 5])
        for many in range(1, 27):
            edge = 4 * (many ** 4 + 1) ** 2
            self.assertEqual([shortest(names) for names in (edge - 1, edge, edge + 1)], [many, many + 1, many + 1])
        self.assertEqual(shortest(10 ** 12), 27)
        for names in [1, 5, 77, 12345, 987654321, 10 ** 12]:
            self.assertEqual(shortest(names), min(m for m in range(1, 40) if 4 * enough(m) > names))

    def test_shortest_no_number(self):
        for thing in [0, -1, 10 ** 12 + 1, 10 ** 19, *odd_things()]:
            with self.assertRaises(NoNumber):
                shortest(thing)


class FooledTest(unittest.TestCase):
    def held(self, judge, maker, marks):
        """What is told, held against the words."""
        told = fooled(judge, maker, marks)
        self.assertIsInstance(told, tuple)
        self.assertTrue(plain_fooling(judge, maker, marks, told), told[0])
        self.assertIs(is_fooling(judge, maker, marks, told), True)
        # The names are those of numbers below enough.
        self.assertLess(max(told[1].names) // 4, enough(len(marks)))
        return told

    def test_all_makers_and_judges(self):
        words = {}
        for marks in PAIRS:
            for maker in some_makers(marks):
                for judge in some_judges():
                    told = self.held(judge, maker, marks)
                    words[told[0]] = words.get(told[0], 0) + 1
        self.assertGreater(words["fooled"], 60)
        self.assertGreater(words["unshown"], 60)

    def test_tables_with_few_squares(self):
        """Lines of a plane of 17 times 17 points: two rows of the table share but few of a row of marks."""
        def maker(world):
            i, j = world.names[0] // 4, world.names[2] // 4
            line = min((j // 17 - i % 17 * (j % 17) - i // 17) % 17, 15)
            return tuple([line >> k & 1 for k in range(4)])

        for judge in some_judges()[:2]:
            self.held(judge, maker, (0, 1))

    def test_judges_that_hold_houses_to_a_table(self):
        """The houses where both numbers meet see them, and say no to any other row of marks than the one of the table."""
        def table(way, i, j):
            if way < 3:
                return tuple([chance(way, i, j, k) % 2 for k in range(4)])
            line = min((j // 17 - i % 17 * (j % 17) - i // 17) % 17, 15)
            return tuple([line >> k & 1 for k in range(4)])

        for way in range(4):
            def maker(world):
                return table(way, world.names[0] // 4, world.names[2] // 4)

            def judge(seen):
                i = [name // 4 for name in (seen[0][0], *[row[0] for row in seen[1]]) if name % 4 < 2]
                j = [name // 4 for name in (seen[0][0], *[row[0] for row in seen[1]]) if name % 4 > 1]
                return i == [] or j == [] or seen[0][2] == table(way, i[0], j[0])[seen[0][0] % 4]

            told = self.held(judge, maker, (0, 1))
            self.assertEqual(told[0], "fooled")
            a, b, c, d = [name // 4 for name in told[1].names[1::2]]
            self.assertEqual({table(way, i, j) for i in (a, c) for j in (b, d)}, {told[2][:4]})

    def test_a_square_late_in_the_table(self):
        """With one mark all are alike; with two, each of the first rows has its own row of marks."""
        def maker(world):
            i = world.names[0] // 4
            return tuple([min(i, 15) >> k & 1 for k in range(4)])

        told = self.held(lambda seen: True, maker, (0, 1))
        self.assertEqual(told[0], "fooled")
        self.assertEqual({told[1].names[0] // 4, told[1].names[4] // 4}, {15, 16})

    def test_an_unshown_ring_late_in_the_table(self):
        wrong = four_ring(2, 3).names
        told = self.held(lambda seen: True, lambda world: (0,) * 4 if world.names != wrong else 7, (0,))
        self.assertEqual(told[0], "fooled")
        for at in range(16):
            names = plain_names(at // 4, at % 4)
            judge = lambda seen: seen[0][0] != names[at % 4]
            self.held(judge, lambda world: (0,) * 4, (0,))

    def test_own_leaders(self):
        """An honest maker has too few marks for distances: modulo 2, modulo 3 is past its marks."""
        def by_two(world):
            return (0, 1, 0, 1)

        def judge(seen):
            near = [row[4] for row in seen[1]]
            return (seen[0][2] == 0 if seen[0][1] == 1 else True) and all(paper != seen[0][2] for paper in near)

        self.assertEqual(self.held(judge, by_two, (0, 1))[0], "fooled")
        self.assertEqual(self.held(judge, lambda world: (0, 1, 2, 1), (0, 1))[0], "unshown")

    def test_flags_and_floats_are_no_papers(self):
        for told in [(True,) * 4, (1, 1, 1, True), (1.0,) * 4, ((1, True),) * 4, (False,) * 4]:
            for marks in [(1,), (1, 0), ((1, 1),), (0,)]:
                triple = self.held(lambda seen: True, lambda world: told, marks)
                self.assertEqual(triple[0], "unshown")
                self.assertEqual(triple[2], told)
                # The thing is equal as Python compares, so numbers may stand for flags.
                if not isinstance(told[0], tuple):
                    same = tuple([int(item) for item in told])
                    self.assertIs(is_fooling(lambda seen: True, lambda world: told, marks, (*triple[:2], same)), True)

    def test_no_marks(self):
        bad = [(), (0, 1, 2), (1, 1), (0, True), (True,), ((True,),), (10 ** 9,), [0, 1], ("0",), (0, -1), ((), ()),
               (nested(0, 4, tuple),), ((1,), (1,)), 0, None]
        # Of the odd things two are marks.
        bad += [thing for thing in odd_things() if thing not in ((None,), ((0,),))]
        for marks in bad:
            with self.assertRaises(NoMarks):
                fooled(lambda seen: True, lambda world: (0,) * 4, marks)
            with self.assertRaises(NoMarks):
                is_fooling(lambda seen: None, lambda world: (0,) * 4, marks, None)

    def test_marks_let_in(self):
        for marks in [*PAIRS, (0,), (nested(0, 3, tuple), nested(0, 2, tuple)), ((1,), 1), (None, ())]:
            self.held(lambda seen: True, lambda world: (marks[-1],) * 4, marks)

    def test_bad_judge(self):
        for flag in [1, 0, None, "yes", (True,)]:
            for house in range(4):
                judge = lambda seen: flag if seen[0][0] % 4 == house else True
                with self.assertRaises(BadJudge) as caught:
                    fooled(judge, lambda world: (0,) * 4, (0, 1))
                self.assertEqual(caught.exception.house, house)
                with self.assertRaises(BadJudge) as caught:
                    is_fooling(judge, lambda world: (0,) * 4, (0, 1), ("unshown", four_ring(3, 4), (0,) * 4))
                self.assertEqual(caught.exception.house, house)
                with self.assertRaises(BadJudge) as caught:
                    is_fooling(judge, None, (0, 1), ("fooled", glued(3, 4, 5, 6), (0,) * 8))
                self.assertEqual(caught.exception.house, house)
            late = lambda seen: flag if seen[0][0] == plain_names(5, 6)[3] else True
            with self.assertRaises(BadJudge) as caught:
                is_fooling(late, None, (0, 1), ("fooled", glued(3, 4, 5, 6), (0,) * 8))
            self.assertEqual(caught.exception.house, 7)

    def test_own_errors_go_on(self):
        def broken(thing):
            raise KeyError("own")

        with self.assertRaises(KeyError):
            fooled(broken, lambda world: (0,) * 4, (0,))
        with self.assertRaises(KeyError):
            fooled(lambda seen: True, broken, (0,))
        with self.assertRaises(KeyError):
            is_fooling(lambda seen: True, broken, (0,), ("unshown", four_ring(0, 0), 0))
        with self.assertRaises(KeyError):
            is_fooling(broken, None, (0,), ("fooled", glued(0, 0, 1, 1), (0,) * 8))

    def test_equal_calls(self):
        for maker in some_makers((0, 1))[:8]:
            for judge in some_judges():
                self.assertEqual(fooled(judge, maker, (0, 1)), fooled(judge, maker, (0, 1)))


def worlds_beside(world):
    """Worlds that are not quite a world."""
    web, names = world.web, world.names
    ties = tuple([(a, b, 1 if at == 0 else w) for at, (a, b, w) in enumerate(web.ties)])
    turned = (*names[1:], names[0])
    moved = tuple([name + 1 for name in names])
    return [World(web, None, ()), World(web, names, (0,)), World(Web(web.signs, ties), names, ()), World(web, turned, ()),
            World(Web((2,) + web.signs[1:], web.ties), names, ()), World(web, moved, ()), World(web, names[::-1], ()),
            World(Web(web.signs[::-1], web.ties), names, ()), four_ring(9, 9), glued(8, 9, 7, 6), four_ring(0, 0),
            glued(1, 0, 2, 3), web, names]


class IsFoolingTest(unittest.TestCase):
    def test_things_beside(self):
        judges = some_judges()
        makers = some_makers((0, 1))
        for judge, maker in itertools.product(judges, makers):
            triple = fooled(judge, maker, (0, 1))
            word, world, told = triple
            things = [(other, world, told) for other in ("fooled", "unshown", "Fooled", b"fooled", None, 0, Web)]
            things += [(word, other, told) for other in worlds_beside(world)]
            rows = [(0,) * 8, (0,) * 4, (1, 0) * 4, [0] * 8, (0,) * 7, (0,) * 9, (False,) * 8, (2,) * 8, None, (0, 1, 2) * 3]
            if isinstance(told, tuple):
                rows += [told[1:], (*told, 0), told[::-1], list(told), (*told[:-1], 0), (*told[:-1], 1)]
            things += [(word, world, row) for row in rows]
            things += [triple[:2], (*triple, 0), list(triple), triple[::-1], (triple,), (word, told, world)]
            for thing in things:
                self.assertIs(is_fooling(judge, maker, (0, 1), thing), plain_fooling(judge, maker, (0, 1), thing))

    def test_any_object(self):
        for thing in odd_things():
            for one in [thing, (thing,), ("unshown", thing, thing), (thing, four_ring(1, 1), (0,) * 4),
                        ("fooled", glued(1, 1, 2, 2), thing), ("fooled", thing, (0,) * 8)]:
                self.assertIs(is_fooling(lambda seen: True, lambda world: (0,) * 4, (0,), one), False)
            # What a maker tells may be any object, and is told as it is.
            telling = lambda world: thing
            triple = fooled(lambda seen: True, telling, (0, 1))
            self.assertEqual(triple[0], "unshown")
            self.assertIs(is_fooling(lambda seen: True, telling, (0, 1), triple), True)
            self.assertIs(is_fooling(lambda seen: True, telling, (0, 1), (*triple[:2], ("other", thing))), False)

    def test_numbers_at_the_edge(self):
        yes = lambda seen: True
        for world in [four_ring(199999, 199999), four_ring(0, 199999)]:
            self.assertIs(is_fooling(yes, lambda world: 5, (0,), ("unshown", world, 5)), True)
        past = World(four_ring(0, 0).web, plain_names(200000, 3), ())
        self.assertIs(is_fooling(yes, lambda world: 5, (0,), ("unshown", past, 5)), False)
        past = World(four_ring(0, 0).web, plain_names(3, 200000), ())
        self.assertIs(is_fooling(yes, lambda world: 5, (0,), ("unshown", past, 5)), False)
        self.assertIs(is_fooling(yes, None, (0,), ("fooled", glued(199999, 0, 0, 199999), (0,) * 8)), True)
        for names in [plain_names(200000, 1) + plain_names(1, 2), plain_names(4, 1) + plain_names(1, 200001)]:
            past = World(glued(0, 0, 1, 1).web, names, ())
            self.assertIs(is_fooling(yes, None, (0,), ("fooled", past, (0,) * 8)), False)

    def test_names_that_lie_near(self):
        """Names by which one number would name both rings make no glued world."""
        yes = lambda seen: True
        for names in [(0, 1, 6, 7, 2, 3, 10, 11), (0, 1, 6, 7, 8, 9, 4, 5), (0, 1, 6, 7, 2, 3, 4, 5), (1, 0, 6, 7, 8, 9, 10, 11),
                      (0, 1, 3, 2, 8, 9, 6, 7), (0, 1, 6, 7, 9, 8, 10, 11), (0, 1, 6, 7, 8, 9, 11, 10)]:
            world = World(glued(0, 0, 1, 1).web, names, ())
            self.assertIs(is_fooling(yes, None, (0,), ("fooled", world, (0,) * 8)), False)
        for names in [(0, 1, 4, 5), (0, 1, 7, 6), (1, 0, 6, 7), (2, 3, 6, 7), (0, 5, 6, 7), (0, 1, 6, 11), (3, 1, 6, 7)]:
            world = World(four_ring(0, 0).web, names, ())
            self.assertIs(is_fooling(yes, lambda world: 5, (0,), ("unshown", world, 5)), False)

    def test_what_is_shown_is_not_unshown(self):
        yes = lambda seen: True
        self.assertIs(is_fooling(yes, lambda world: (0, 1, 0, 1), (0, 1), ("unshown", four_ring(1, 2), (0, 1, 0, 1))), False)
        no = lambda seen: seen[0][0] != 11
        self.assertIs(is_fooling(no, lambda world: (0, 1, 0, 1), (0, 1), ("unshown", four_ring(1, 2), (0, 1, 0, 1))), True)
        self.assertIs(is_fooling(no, lambda world: (0, 1, 0, 1), (0, 1), ("unshown", four_ring(1, 2), (0, 1, 1, 1))), False)
        self.assertIs(is_fooling(no, None, (0, 1), ("fooled", glued(1, 2, 3, 4), (0, 1) * 4)), False)
        self.assertIs(is_fooling(no, None, (0, 1), ("fooled", glued(1, 3, 3, 4), (0, 1) * 4)), True)


if __name__ == "__main__":
    unittest.main()
