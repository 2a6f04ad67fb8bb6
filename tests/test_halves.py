"""Points 11.1 to 11.4: halves that are alike, by marks and by dice."""

import itertools
import math
import unittest

from nearpapers.errors import BadJudge, NoBits, NoMarks, NoNumber, NoPrime
from nearpapers.halves import crossed, dice_judge, dice_papers, error, halves, is_crossing
from nearpapers.webs import Web
from nearpapers.worlds import World, all_yes, says, view
from tests.helper import dice_of, nested, odd_things, random_web, ring_web, row_web
from tests.test_gluing import chance, of_marks

PRIMES = [2, 3, 5, 7, 11, 13, 17, 19, 23]
# For so many marks the least half that is let in.
LEAST = {1: 3, 2: 5, 3: 6, 4: 7}
YES = lambda seen: True


def all_bits(many):
    return list(itertools.product((0, 1), repeat=many))


def plain_halves(bits, other):
    many = 2 * len(bits)
    return World(Web(bits + tuple([2 + bit for bit in other]), tuple([(k, k + 1, 0) for k in range(many - 1)])),
                 tuple(range(many)), ())


def row_views(world, papers):
    """The views of houses in a row, named as numbered."""
    many = world.web.many
    return [((k, world.web.signs[k], papers[k]), tuple([(n, 0, False, world.web.signs[n], papers[n])
                                                         for n in (k - 1, k + 1) if 0 <= n < many]))
            for k in range(many)]


def plain_crossing(judge, maker, marks, half, thing):
    """Whether a thing is a triple as 11.2 says, word by word."""
    if not isinstance(thing, tuple) or len(thing) != 3 or not isinstance(thing[1], World):
        return False
    word, world, told = thing
    pairs = [(one, other) for one in all_bits(half) for other in all_bits(half) if plain_halves(one, other) == world]
    if not pairs:
        return False
    alike = pairs[0][0] == pairs[0][1]
    if word == "unshown":
        made = maker(world)
        shown = of_marks(marks, 2 * half, made) and all([judge(seen) for seen in row_views(world, made)])
        return alike and made == told and not shown
    return (word == "fooled" and not alike and of_marks(marks, 2 * half, told)
            and all([judge(seen) for seen in row_views(world, told)]))


class HalvesTest(unittest.TestCase):
    def test_worlds(self):
        for many in range(1, 9):
            dice = dice_of(many)
            for _ in range(6):
                bits, other = dice.choice(all_bits(many)), dice.choice(all_bits(many))
                self.assertEqual(halves(bits, other), plain_halves(bits, other))
        self.assertEqual(halves((1,), (0,)).web.signs, (1, 2))
        self.assertEqual(halves((0, 1), (1, 0)).names, (0, 1, 2, 3))

    def test_no_bits(self):
        bad = [(), (2,), (0,) * 9, (True,), (-1,), [0], "0", 0, None, ((0,),), (0, "1"), *odd_things()]
        for thing in bad:
            for good in [(0,), (1, 1), (0,) * 8, (0,) * 9, None]:
                for call in [lambda one, other: halves(one, other), lambda one, other: dice_papers(one, other, 4, 9),
                             lambda one, other: error(one, other, 4)]:
                    with self.assertRaises(NoBits):
                        call(thing, good)
                    with self.assertRaises(NoBits):
                        call(good, thing)
        for one, other in [((0,), (0, 0)), ((0, 1, 1), (0, 1)), ((1,) * 8, (1,) * 7), ((), ()), ((0,) * 9, (0,) * 9)]:
            for call in [lambda: halves(one, other), lambda: dice_papers(one, other, 3, 0), lambda: error(one, other, 3)]:
                with self.assertRaises(NoBits):
                    call()


def some_makers(marks, half):
    first, last = marks[0], marks[-1]
    pick = lambda *things: marks[chance(*things) % len(marks)]
    many = 2 * half
    return [
        lambda world: (first,) * many,
        lambda world: tuple([marks[sign % len(marks)] for sign in world.web.signs]),
        lambda world: tuple([pick(name, world.web.signs) for name in world.names]),
        lambda world: tuple([marks[sum(world.web.signs[:name]) % len(marks)] for name in world.names]),
        lambda world: tuple([marks[sum(world.web.signs[name:]) % len(marks)] for name in world.names]),
        lambda world: tuple([pick(world.web.signs)] * many),
        lambda world: (first,) * many if sum(world.web.signs[:half]) < 3 else [first] * many,
        lambda world: (first,) * many if world.web.signs[0] == 0 else (last,) * (many - 1),
        lambda world: (first,) * (many - 1) + (False,),
        lambda world: None,
        lambda world: 0.25,
    ]


def some_judges(half):
    return [
        YES,
        lambda seen: False,
        lambda seen: len({seen[0][2], *[row[4] for row in seen[1]]}) < 3,
        lambda seen: chance(seen) % 200 != 0,
        lambda seen: seen[0][0] != half or seen[0][1] == 2,
        lambda seen: seen[0][0] != half or seen[0][1] - 2 == seen[1][0][3],
        lambda seen: seen[0][0] != half or seen[0][2] == seen[1][0][4],
    ]


class CrossedTest(unittest.TestCase):
    def held(self, judge, maker, marks, half):
        told = crossed(judge, maker, marks, half)
        self.assertTrue(plain_crossing(judge, maker, marks, half, told), told)
        self.assertIs(is_crossing(judge, maker, marks, half, told), True)
        return told

    def test_all_makers_and_judges(self):
        words = {}
        for marks in [(0,), (3, None), ((), 1, (1,)), (4, 5, 6, ((7, None),))]:
            for half in (LEAST[len(marks)], 8):
                for judge, maker in itertools.product(some_judges(half), some_makers(marks, half)):
                    if half == 8 and judge is YES:
                        continue
                    word = self.held_word(judge, maker, marks, half)
                    words[word] = words.get(word, 0) + 1
        self.assertGreater(words["fooled"], 40)
        self.assertGreater(words["unshown"], 40)

    def held_word(self, judge, maker, marks, half):
        told = crossed(judge, maker, marks, half)
        self.assertIs(is_crossing(judge, maker, marks, half, told), True)
        word, world, thing = told
        front = world.web.signs[:half]
        back = tuple([sign - 2 for sign in world.web.signs[half:]])
        self.assertEqual(world, plain_halves(front, back))
        shown = of_marks(marks, 2 * half, thing) and all([judge(seen) for seen in row_views(world, thing)])
        if word == "unshown":
            self.assertEqual(front, back)
            self.assertEqual(maker(plain_halves(front, back)), thing)
            self.assertFalse(shown)
        else:
            self.assertEqual(word, "fooled")
            self.assertNotEqual(front, back)
            self.assertTrue(shown)
        return word

    def test_a_middle_met_late(self):
        """The marks in the middle tell four things apart, so only many rows of bits have one middle."""
        def maker(world):
            number = sum([sign << at for at, sign in enumerate(world.web.signs[1:6])])
            return (0,) * 6 + (number & 3, number >> 2 & 3) + (0,) * 6

        told = self.held(YES, maker, (0, 1, 2, 3), 7)
        self.assertEqual(told[0], "fooled")

    def test_what_stands_in_the_middle(self):
        """Judges that show all alike halves, and refuse rows whose halves do not agree on one thing in the middle."""
        for half in (5, 6, 8):
            last, first = half - 1, half
            # Where the front ends: its last bit, or what its last house holds, stands at the second house behind it.
            by_sign = lambda world: [world.web.signs[last] if name == first + 1 else 0 for name in world.names]
            by_mark = lambda world: [sum(world.web.signs[:half]) % 2 if name in (last, first + 1) else 0 for name in world.names]
            # Where the back begins: likewise, at the second house ahead of it.
            by_sign_behind = lambda world: [world.web.signs[first] - 2 if name == last - 1 else 0 for name in world.names]
            by_mark_behind = lambda world: [sum(world.web.signs[:half]) % 2 if name in (first, last - 1) else 0
                                            for name in world.names]
            for maker, judge in [
                    (by_sign, lambda seen: seen[0][0] != first or seen[1][0][3] == seen[1][1][4]),
                    (by_mark, lambda seen: seen[0][0] != first or seen[1][0][4] == seen[1][1][4]),
                    (by_sign_behind, lambda seen: seen[0][0] != last or seen[1][1][3] - 2 == seen[1][0][4]),
                    (by_mark_behind, lambda seen: seen[0][0] != last or seen[1][1][4] == seen[1][0][4])]:
                told = self.held_word(judge, lambda world: tuple(maker(world)), (0, 1), half)
                self.assertEqual(told, "fooled")

    def test_marks_beside_the_middle_are_no_matter(self):
        """Rows of bits that two marks in the middle and one beside them would all tell apart."""
        for start in (3, 4):
            def maker(world):
                told = [0] * 10
                told[start:start + 3] = world.web.signs[1:4]
                return tuple(told)

            self.assertEqual(self.held(YES, maker, (0, 1), 5)[0], "fooled")

    def test_halves_let_in(self):
        for many, least in LEAST.items():
            marks = tuple(range(many))
            maker = lambda world: (0,) * world.web.many
            for half in range(least, 9):
                self.assertEqual(crossed(YES, maker, marks, half)[0], "fooled")
            for half in [*range(least), 9, 10 ** 19, -1, *odd_things()]:
                with self.assertRaises(NoNumber):
                    crossed(YES, maker, marks, half)
                with self.assertRaises(NoNumber):
                    is_crossing(YES, maker, marks, half, None)
            self.assertGreater(2 ** least, 4 * many * many)
            self.assertLessEqual(2 ** (least - 1), 4 * many * many)

    def test_no_marks(self):
        bad = [(), (0, 1, 2, 3, 4), (1, 1), (0, 1, 2, 0), (0, True), (True,), (10 ** 9,), [0], ((), ()), 0, None,
               (nested(0, 4, tuple),), "0"]
        bad += [thing for thing in odd_things() if thing not in ((None,), ((0,),))]
        for marks in bad:
            for half in (8, 0, None):
                with self.assertRaises(NoMarks):
                    crossed(YES, lambda world: None, marks, half)
                with self.assertRaises(NoMarks):
                    is_crossing(YES, lambda world: None, marks, half, None)

    def test_bad_judge(self):
        for flag in [1, None, "no"]:
            for house in range(6):
                judge = lambda seen: flag if seen[0][0] == house else True
                maker = lambda world: (0,) * 6
                for call in [lambda: crossed(judge, maker, (0,), 3),
                             lambda: is_crossing(judge, maker, (0,), 3, ("unshown", halves((0, 1, 0), (0, 1, 0)), (0,) * 6)),
                             lambda: is_crossing(judge, maker, (0,), 3, ("fooled", halves((0, 1, 0), (0, 1, 1)), (0,) * 6))]:
                    with self.assertRaises(BadJudge) as caught:
                        call()
                    self.assertEqual(caught.exception.house, house)

    def test_own_errors_go_on(self):
        def broken(thing):
            raise KeyError("own")

        with self.assertRaises(KeyError):
            crossed(broken, lambda world: (0,) * 6, (0,), 3)
        with self.assertRaises(KeyError):
            crossed(YES, broken, (0,), 3)

    def test_is_crossing_of_things_beside(self):
        for judge, maker in itertools.product(some_judges(3), some_makers((0,), 3)):
            triple = crossed(judge, maker, (0,), 3)
            word, world, told = triple
            names = world.names
            worlds = [plain_halves(one, other) for one in all_bits(3)[::3] for other in all_bits(3)[::2]]
            worlds += [World(world.web, None, ()), World(world.web, names, (1,)), World(world.web, names[::-1], ()),
                       World(world.web, tuple([name + 1 for name in names]), ()), plain_halves((0, 0), (0, 0)),
                       plain_halves((0, 0, 1, 1), (0, 0, 1, 1)), World(row_web(6, (0, 2)), names, ()), world.web, names,
                       World(Web((0, 0, 0, 2, 2, 2, 2), row_web(7).ties), tuple(range(7)), ()),
                       World(Web((0, 0, 0, 2, 2), row_web(5).ties), tuple(range(5)), ()),
                       World(Web(world.web.signs[:5] + (0,), world.web.ties), names, ()),
                       World(Web((2,) + world.web.signs[1:], world.web.ties), names, ()),
                       World(Web(world.web.signs, ((0, 1, 1), *world.web.ties[1:])), names, ())]
            things = [(word, other, told) for other in worlds]
            things += [("fooled", other, (0,) * 6) for other in worlds] + [("unshown", other, (0,) * 6) for other in worlds]
            things += [(other, world, told) for other in ("fooled", "unshown", "", None, 1, b"fooled")]
            rows = [(0,) * 5, (0,) * 7, (False,) * 6, [0] * 6, None, (1,) * 6, (0, 0, 0, 0, 0, 1)]
            things += [(word, world, row) for row in rows] + [triple[:2], (*triple, 0), list(triple), triple[::-1]]
            for thing in things:
                self.assertIs(is_crossing(judge, maker, (0,), 3, thing), plain_crossing(judge, maker, (0,), 3, thing))

    def test_any_object(self):
        for thing in odd_things():
            for one in [thing, (thing,), ("unshown", thing, thing), (thing, halves((0,) * 3, (0,) * 3), (0,) * 6),
                        ("fooled", halves((0,) * 3, (0, 0, 1)), thing)]:
                self.assertIs(is_crossing(YES, lambda world: (0,) * 6, (0,), 3, one), False)
            triple = crossed(YES, lambda world: thing, (0,), 3)
            self.assertEqual(triple[0], "unshown")
            self.assertIs(is_crossing(YES, lambda world: thing, (0,), 3, triple), True)

    def test_the_seam_sees_what_both_see(self):
        """Where both rows of bits have one middle, each house of the crossed row sees what it sees in one of both."""
        dice = dice_of(112)
        for _ in range(40):
            half = dice.randrange(3, 9)
            one, other = dice.sample(all_bits(half), 2)
            if (one[0], one[-1]) != (other[0], other[-1]):
                continue
            papers = [tuple([dice.randrange(3) for _ in range(2 * half)]) for _ in range(2)]
            papers[1] = papers[1][:half - 1] + papers[0][half - 1:half + 1] + papers[1][half + 1:]
            mixed = papers[0][:half] + papers[1][half:]
            seen = [view(halves(one, other), mixed, house) for house in range(2 * half)]
            both = [view(halves(bits, bits), row, house) for bits, row in zip((one, other), papers)
                    for house in range(2 * half)]
            for house in range(2 * half):
                self.assertEqual(seen[house], both[house if house < half else house + 2 * half])


def plain_dice(prime, point, seen):
    """What the judge tells, by the words of 11.3."""
    (name, sign, paper), near = seen
    if name is None:
        return False
    for one in [paper] + [row[4] for row in near]:
        if type(one) is not tuple or len(one) != 4 or not all(type(k) is int and 0 <= k < prime for k in one):
            return False
    if any(row[4][0] != paper[0] or row[4][3] != paper[3] for row in near):
        return False
    if name == 0 and paper[0] != point:
        return False
    left = [row for row in near if row[0] == name - 1]
    right = [row for row in near if row[0] == name + 1]
    bit = sign % 2
    if not left or (left[0][3] < 2 and not sign < 2):
        if paper[1] != 1 % prime or paper[2] != bit * (1 % prime):
            return False
    else:
        power, total = left[0][4][1], left[0][4][2]
        if paper[1] != power * paper[0] % prime or paper[2] != (total + paper[1] * bit) % prime:
            return False
    if not right or (not right[0][3] < 2 and sign < 2):
        return paper[2] == paper[3]
    return True


class DiceTest(unittest.TestCase):
    def test_papers(self):
        for many in range(1, 9):
            dice = dice_of(many + 50)
            for prime in PRIMES:
                bits, other = dice.choice(all_bits(many)), dice.choice(all_bits(many))
                for point in {0, 1 % prime, prime - 1, dice.randrange(prime)}:
                    told = dice_papers(bits, other, prime, point)
                    whole = sum([bit * point ** k for k, bit in enumerate(bits)]) % prime
                    due = []
                    for row in (bits, other):
                        for k in range(many):
                            total = sum([row[m] * point ** m for m in range(k + 1)])
                            due.append((point, point ** k % prime, total % prime, whole))
                    self.assertEqual(told, tuple(due))

    def test_errors_in_order(self):
        bad_primes = [0, 1, 4, 9, 15, 21, 24, 25, 29, -2, -3, True, 10 ** 19, *odd_things()]
        for prime in bad_primes:
            for point in (0, None, -1):
                with self.assertRaises(NoPrime):
                    dice_papers((0,), (1,), prime, point)
                with self.assertRaises(NoPrime):
                    dice_judge(prime, point)
            with self.assertRaises(NoPrime):
                error((0,), (1,), prime)
            with self.assertRaises(NoBits):
                error((0,), (1, 0), prime)
        for prime in PRIMES:
            for point in [prime, prime + 1, -1, True, 10 ** 19, *odd_things()]:
                with self.assertRaises(NoNumber):
                    dice_papers((0,), (1,), prime, point)
                with self.assertRaises(NoNumber):
                    dice_judge(prime, point)
                with self.assertRaises(NoBits):
                    dice_papers((0,), None, prime, point)
            for point in (0, prime - 1):
                self.assertEqual(len(dice_papers((0,), (1,), prime, point)), 2)
                self.assertTrue(callable(dice_judge(prime, point)))

    def test_alike_halves_are_shown_at_every_point(self):
        for many in range(1, 9):
            bits = dice_of(many).choice(all_bits(many))
            for prime in PRIMES:
                for point in range(prime):
                    judge = dice_judge(prime, point)
                    self.assertEqual(says(halves(bits, bits), dice_papers(bits, bits, prime, point), judge),
                                     (True,) * (2 * many))

    def test_unlike_halves(self):
        dice = dice_of(113)
        for _ in range(150):
            many = dice.randrange(1, 9)
            bits, other = dice.choice(all_bits(many)), dice.choice(all_bits(many))
            prime = dice.choice(PRIMES)
            point = dice.randrange(prime)
            papers = dice_papers(bits, other, prime, point)
            same = papers[many - 1][2] == papers[-1][2]
            told = says(halves(bits, other), papers, dice_judge(prime, point))
            self.assertEqual(told, (True,) * (2 * many - 1) + (same,))
            # Papers of another point are refused at the house of name 0 alone.
            thrown = (point + 1) % prime
            told = says(halves(bits, other), papers, dice_judge(prime, thrown))
            self.assertEqual(told[0], False)
            self.assertEqual(told[1:], (True,) * (2 * many - 2) + (same,))

    def test_house_by_house_on_spoilt_papers(self):
        dice = dice_of(114)
        flags = {True: 0, False: 0}
        for _ in range(400):
            many = dice.randrange(1, 9)
            prime = dice.choice(PRIMES)
            point = dice.randrange(prime)
            bits, other = dice.choice(all_bits(many)), dice.choice(all_bits(many))
            papers = [list(row) for row in dice_papers(bits, dice.choice([bits, other]), prime, point)]
            for _ in range(dice.randrange(3)):
                papers[dice.randrange(2 * many)][dice.randrange(4)] = dice.choice([0, 1, prime - 1, prime, prime + 1, 2])
            papers = tuple(map(tuple, papers))
            if dice.randrange(10) == 0:
                papers = (dice.choice([None, 0, (), papers[0][:3], (*papers[0], 0), (papers[0],)]), *papers[1:])
            judge = dice_judge(prime, point)
            for seen in row_views(halves(bits, other), papers):
                self.assertIs(judge(seen), plain_dice(prime, point, seen))
                flags[judge(seen)] += 1
        self.assertGreater(min(flags.values()), 500)

    def test_worlds_of_other_names_and_signs(self):
        dice = dice_of(115)
        flags = {True: 0, False: 0}
        for trial in range(1500):
            many = dice.randrange(1, 7)
            web = dice.choice([random_web(dice, many), row_web(many, tuple([dice.randrange(4) for _ in range(4)])),
                               ring_web([dice.randrange(4) for _ in range(max(3, many))])])
            names = tuple(dice.sample(range(web.many + dice.randrange(2)), web.many))
            shift = dice.choice([0, 0, 0, 1, 7])
            names = tuple([name + shift for name in names])
            world = World(web, dice.choice([names, names, tuple(range(web.many)), None]), ())
            prime = dice.choice([2, 2, 3, 5])
            point = dice.randrange(prime)
            whole = dice.randrange(prime)
            papers = []
            for house in range(web.many):
                bit = web.signs[house] % 2
                papers.append(dice.choice([
                    (point, 1, bit, whole), (point, 1, bit, bit), (point, point, bit * point % prime, whole),
                    (point, dice.randrange(prime), dice.randrange(prime), whole)]))
            if dice.randrange(8) == 0:
                papers[dice.randrange(web.many)] = dice.choice([None, (1, 1, 1), (point, 1, 1, prime), (point, 1, 1, 1, 1)])
            judge = dice_judge(prime, point)
            for house in range(web.many):
                seen = view(world, tuple(papers), house)
                self.assertIs(judge(seen), plain_dice(prime, point, seen))
                flags[judge(seen)] += 1
        self.assertGreater(min(flags.values()), 300)

    def test_line_by_line(self):
        """Each line of the rule by itself: views that keep all lines but one."""
        judge = dice_judge(5, 3)
        left, right = (6, 0, False, 1, (3, 2, 4, 1)), (8, 0, False, 0, (3, 3, 0, 1))
        # power 2 * 3 modulo 5, sum 4 + 1 modulo 5
        good = ((7, 1, (3, 1, 0, 1)), (left, right))
        self.assertIs(judge(good), True)
        for own, near in [
                ((None, 1, (3, 1, 0, 1)), (left, right)), ((7, 0, (3, 1, 0, 1)), (left, right)),
                ((7, 1, (3, 2, 0, 1)), (left, right)), ((7, 1, (3, 1, 5, 1)), (left, right)),
                ((7, 1, (3, 1, 0, 1)), (left,)), ((7, 1, (3, 1, 0, 1)), (left, (8, 0, False, 2, (3, 3, 0, 1)))),
                ((7, 1, (3, 1, 0, 1)), (right,)), ((7, 3, (3, 1, 0, 1)), (left, right)),
                ((7, 1, (3, 1, 0, 2)), (left, right)), ((7, 1, (3, 1, 0, 1)), (left, (8, 0, False, 0, (2, 3, 0, 1)))),
                ((7, 1, (3, 1, 0, 1)), (left, (8, 0, False, 0, (3, 3, 0)))), ((7, 1, [3, 1, 0, 1]), (left, right)),
                ((7, 1, (3, True, 0, 1)), (left, right)), ((7, 1, None), ())]:
            self.assertIs(judge((own, near)), False)
            self.assertIs(plain_dice(5, 3, (own, near)), False)
        for own, near, flag in [
                ((7, 3, (3, 1, 1, 1)), (left, right), True), ((7, 3, (3, 1, 1, 1)), (left,), True),
                ((7, 3, (3, 1, 1, 2)), (), False), ((7, 2, (3, 1, 0, 0)), (), True), ((7, 1, (4, 1, 1, 1)), (), True),
                ((0, 1, (4, 1, 1, 1)), (), False), ((0, 1, (3, 1, 1, 1)), (), True),
                ((7, 1, (3, 1, 0, 1)), (left, right, (9, 5, True, 3, (3, 4, 4, 1))), True),
                ((7, 1, (3, 1, 0, 1)), (left, right, (9, 5, True, 3, (3, 4, 4, 2))), False)]:
            self.assertIs(judge((own, near)), flag)
            self.assertIs(plain_dice(5, 3, (own, near)), flag)


class ErrorTest(unittest.TestCase):
    def test_by_own_reckoning(self):
        for many in range(1, 5):
            for bits, other in itertools.product(all_bits(many), repeat=2):
                for prime in PRIMES:
                    self.held(bits, other, prime)
        dice = dice_of(116)
        for many in range(5, 9):
            for _ in range(40):
                self.held(dice.choice(all_bits(many)), dice.choice(all_bits(many)), dice.choice(PRIMES))

    def held(self, bits, other, prime):
        good = 0
        for point in range(prime):
            unlike = sum([(one - two) * point ** k for k, (one, two) in enumerate(zip(bits, other))])
            good += unlike % prime == 0
        common = math.gcd(good, prime)
        top, bottom = error(bits, other, prime)
        self.assertEqual((top, bottom), (good // common, prime // common))
        if bits == other:
            self.assertEqual((top, bottom), (1, 1))
        else:
            self.assertLessEqual(top * prime, (len(bits) - 1) * bottom)

    def test_at_points_asked(self):
        """The points at which dice_papers make all say yes are just those that are counted."""
        dice = dice_of(117)
        for _ in range(40):
            many = dice.randrange(1, 9)
            bits, other = dice.choice(all_bits(many)), dice.choice(all_bits(many))
            prime = dice.choice(PRIMES)
            good = [point for point in range(prime)
                    if all_yes(halves(bits, other), dice_papers(bits, other, prime, point), dice_judge(prime, point))]
            top, bottom = error(bits, other, prime)
            self.assertEqual(top * prime, len(good) * bottom)

    def test_all_papers_of_one_bit(self):
        """THE SEVENTH FACT: no papers do but dice_papers."""
        for prime in (2, 3):
            rows = list(itertools.product(range(prime), repeat=4))
            for bit, other in itertools.product((0, 1), repeat=2):
                world = halves((bit,), (other,))
                good = 0
                for point in range(prime):
                    judge = dice_judge(prime, point)
                    found = [papers for papers in itertools.product(rows, repeat=2)
                             if judge(row_views(world, papers)[0]) and judge(row_views(world, papers)[1])]
                    due = [dice_papers((bit,), (other,), prime, point)] if bit == other else []
                    self.assertEqual(found, due)
                    good += len(found) > 0
                top, bottom = error((bit,), (other,), prime)
                self.assertEqual(top * prime, good * bottom)

    def test_all_papers_of_two_bits(self):
        """All that have one point and one whole, as each house asks."""
        for bits, other in [((0, 1), (1, 0)), ((1, 1), (1, 1)), ((1, 0), (0, 0)), ((0, 1), (1, 1))]:
            world = halves(bits, other)
            for prime in (2, 3):
                good = 0
                for thrown in range(prime):
                    judge = dice_judge(prime, thrown)
                    found = set()
                    for point, whole in itertools.product(range(prime), repeat=2):
                        cells = [(point, power, total, whole) for power in range(prime) for total in range(prime)]
                        for papers in itertools.product(cells, repeat=4):
                            if all(judge(seen) for seen in row_views(world, papers)):
                                found.add(papers)
                    self.assertLessEqual(found, {dice_papers(bits, other, prime, thrown)})
                    good += len(found)
                top, bottom = error(bits, other, prime)
                self.assertEqual(top * prime, good * bottom)


if __name__ == "__main__":
    unittest.main()
