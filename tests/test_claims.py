"""Points 8.1 to 8.3: claims, their papers and their rules."""

import itertools
import unittest

from nearpapers.claimpapers import papers_for
from nearpapers.claimrules import claim_rule
from nearpapers.claims import digits_of, is_true
from nearpapers.covers import cover
from nearpapers.errors import NoClaim, NoNames, NoPapers, NotTrue, TooMany
from nearpapers.rules import Rule, rule_judge
from nearpapers.webs import Web
from nearpapers.worlds import World, all_yes, is_papers, says, view
from tests.claimwords import CLAIMS, WIDTHS, plain_says, plain_true
from tests.helper import dice_of, nested, odd_things, random_web, ring_web, row_web

ALL = [*CLAIMS, ("many", 1), ("many", 3), ("many", 5)]
BIG = World(cover(ring_web((0,) * 9), 2, (((1, 0),) + ((0, 1),) * 8))[0], tuple(range(18)), ())


def some_tree(dice, world):
    """The numbers of ties of a tree of all houses, drawn."""
    parts = list(range(world.web.many))
    told = []
    for at in dice.sample(range(len(world.web.ties)), len(world.web.ties)):
        one, other, _ = world.web.ties[at]
        if parts[one] != parts[other]:
            told.append(at)
            left, kept = parts[one], parts[other]
            parts = [kept if part == left else part for part in parts]
    return told


def some_pairing(dice, world):
    used, told = set(), []
    for at in dice.sample(range(len(world.web.ties)), len(world.web.ties)):
        ends = set(world.web.ties[at][:2])
        if not ends & used:
            used |= ends
            told.append(at)
    return told


def lightest_tree(world):
    """The numbers of the ties of the tree that takes the lightest tie that closes no ring, again and again."""
    parts = list(range(world.web.many))
    told = []
    ranks = [(tie[2], sorted([world.names[tie[0]], world.names[tie[1]]]), at) for at, tie in enumerate(world.web.ties)]
    for _, _, at in sorted(ranks):
        one, other, _ = world.web.ties[at]
        if parts[one] != parts[other]:
            told.append(at)
            parts = [parts[other] if part == parts[one] else part for part in parts]
    return told


def near_tree(world):
    """The numbers of ties of a tree of lightest ways to the first house with sign 1, if there is one."""
    many = world.web.many
    best = {k: 0 for k in range(many) if world.web.signs[k] == 1}
    told = {}
    for _ in range(many):
        for at, (a, b, weight) in enumerate(world.web.ties):
            for one, other in ((a, b), (b, a)):
                if one in best and best[one] + weight < best.get(other, 10 ** 9):
                    best[other] = best[one] + weight
                    told[other] = at
    return list(told.values())


def worlds_of(dice, web):
    """The world of a web with drawn names, several lots of ties being picked."""
    names = tuple(dice.sample(range(web.many + 3 if dice.randrange(2) else 1000000), web.many))
    base = World(web, names, ())
    lots = [[], range(len(web.ties)), some_tree(dice, base), some_pairing(dice, base), lightest_tree(base),
            near_tree(base), dice.sample(range(len(web.ties)), dice.randrange(len(web.ties) + 1))]
    return [World(web, names, tuple(sorted(lot))) for lot in lots]


def some_worlds(number, times, most):
    """Worlds of few houses, many of them alike but for one tie that is picked or not."""
    dice = dice_of(number)
    for _ in range(times):
        web = random_web(dice, dice.randrange(1, most + 1), signs=dice.choice([2, 3]), more=dice.randrange(6),
                         weights=dice.choice([1, 3, 1000]))
        yield from worlds_of(dice, web)
    for signs in [(1, 0, 0), (0, 0, 1, 2), (0,) * 5]:
        yield from worlds_of(dice, ring_web(signs))


class IsTrueTest(unittest.TestCase):
    def test_against_trying_all(self):
        told = {}
        for world in some_worlds(91, 90, 6):
            for claim in [*CLAIMS, ("many", world.web.many), ("many", world.web.many + 1)]:
                truth = is_true(claim, world)
                self.assertIs(truth, plain_true(claim, world), (claim, world.web.signs, world.web.ties, world.picked))
                told[(claim[0], truth)] = told.get((claim[0], truth), 0) + 1
        self.assertEqual(len(told), 22)
        self.assertGreater(min(told.values()), 5)

    def test_known_by_hand(self):
        one = World(Web((1,), ()), (7,), ())
        self.assertEqual([is_true(claim, one) for claim in ALL],
                         [True, True, False, True, False, True, True, True, False, True, True, False, False])
        ring = World(ring_web((1, 2, 0)), (5, 4, 3), (0, 1, 2))
        self.assertEqual([claim[0] for claim in ALL if is_true(claim, ring)], ["leader", "balance", "odd", "round", "many"])
        # Ties of one weight: those of lesser names are the lighter ones.
        for names, lot in [((1, 2, 3), (0, 1)), ((3, 2, 1), (1, 2)), ((2, 1, 3), (0, 2)), ((3, 1, 2), (0, 2))]:
            truths = [is_true(("least",), World(ring_web((0, 0, 0)), names, picked)) for picked in
                      itertools.combinations(range(3), 2)]
            self.assertEqual(truths, [picked == lot for picked in itertools.combinations(range(3), 2)])

    def test_sixteen_houses(self):
        dice = dice_of(92)
        for more in (0, 12, 90):
            web = random_web(dice, 16, signs=3, more=more)
            for world in worlds_of(dice, web):
                for claim in [*CLAIMS, ("many", 16), ("many", 17)]:
                    self.assertIsInstance(is_true(claim, world), bool)
        every = Web((0,) * 16, tuple([(a, b, 0) for a in range(16) for b in range(a + 1, 16)]))
        picked = tuple([k for k, tie in enumerate(every.ties) if tie[0] % 2 == 0 and tie[1] == tie[0] + 1])
        self.assertIs(is_true(("pairing",), World(every, tuple(range(16)), picked)), True)
        self.assertIs(is_true(("pairing",), World(every, tuple(range(16)), picked[:-1])), False)


class ErrorsTest(unittest.TestCase):
    def test_no_claims(self):
        wrong = [*odd_things(), (), ("leader", 1), ["leader"], ("many",), ("many", 0), ("many", 101), ("many", True),
                 ("many", "1"), ("many", -1), ("many", 3, 3), ("many", (3,)), ("many", 10 ** 19), "leader", ("Leader",),
                 ("sum",), (("leader",),), ("many", None), nested("leader", 38, tuple), {"leader": 1}, (b"leader",)]
        nameless = World(row_web(2), None, ())
        for thing in wrong:
            with self.assertRaises(NoClaim):
                claim_rule(thing)
            for world in (World(row_web(1), (1,), ()), nameless, BIG, World(BIG.web, None, ())):
                for function in (is_true, papers_for):
                    with self.assertRaises(NoClaim):
                        function(thing, world)
        for many in (1, 100):
            self.assertIsInstance(claim_rule(("many", many)), Rule)

    def test_of_what_is_no_world_no_claim_is_true(self):
        for thing in [thing for thing in odd_things() if not isinstance(thing, World)]:
            for claim in ALL:
                self.assertIs(is_true(claim, thing), False)
            with self.assertRaises(NoClaim):
                is_true(("lead",), thing)

    def test_nameless_then_too_many_then_not_true(self):
        self.assertEqual(BIG.web.many, 18)
        for claim in ALL:
            for function in (is_true, papers_for):
                for world in (World(row_web(2), None, ()), World(BIG.web, None, ())):
                    with self.assertRaises(NoNames):
                        function(claim, world)
                with self.assertRaises(TooMany) as caught:
                    function(claim, BIG)
                self.assertEqual(caught.exception.most, 16)
        for world in some_worlds(93, 12, 7):
            for claim in ALL:
                if not is_true(claim, world):
                    with self.assertRaises(NotTrue):
                        papers_for(claim, world)

    def test_seventeen_houses(self):
        # A house that two sheets share is not there twice: of a cover just the part that is joined is told.
        web, _ = cover(ring_web((1, 0, 0, 0)), 4, ((1, 2, 3, 0),) + ((0, 1, 2, 3),) * 3)
        self.assertEqual(web.many, 16)
        self.assertIs(is_true(("many", 16), World(web, tuple(range(16)), ())), True)
        web, _ = cover(ring_web((1,) * 6), 3, ((1, 2, 0),) + ((0, 1, 2),) * 5)
        self.assertEqual(web.many, 18)
        with self.assertRaises(TooMany):
            is_true(("many", 18), World(web, tuple(range(18)), ()))


class PapersTest(unittest.TestCase):
    def check(self, claim, world):
        papers = papers_for(claim, world)
        self.assertTrue(is_papers(world.web.many, papers))
        self.assertTrue(all_yes(world, papers, rule_judge(claim_rule(claim))), (claim, world.web.ties, world.picked))
        return papers

    def test_all_say_yes(self):
        done = {}
        for world in itertools.chain(some_worlds(94, 150, 8), some_worlds(95, 30, 16)):
            for claim in [*CLAIMS, ("many", world.web.many)]:
                if is_true(claim, world):
                    self.check(claim, world)
                    done[claim[0]] = done.get(claim[0], 0) + 1
        self.assertEqual(len(done), 11)
        self.assertGreater(min(done.values()), 20)

    def test_rings_and_great_names(self):
        dice = dice_of(96)
        for many in (3, 4, 9, 15, 16):
            web = ring_web((1,) + (0,) * (many - 1))
            names = tuple(dice.sample(range(999000, 1000000), many))
            self.check(("round",), World(web, names, tuple(range(many))))
            self.check(("odd",) if many % 2 else ("sides",), World(web, names, ()))
            self.check(("many", many), World(web, names, ()))

    def test_many_ties(self):
        dice = dice_of(97)
        for _ in range(6):
            web = random_web(dice, 16, signs=2, more=80, weights=4)
            for world in worlds_of(dice, web):
                for claim in CLAIMS:
                    if is_true(claim, world):
                        self.check(claim, world)


class RuleTest(unittest.TestCase):
    def test_widths(self):
        for claim in ALL:
            rule = claim_rule(claim)
            self.assertIsInstance(rule, Rule)
            self.assertEqual(rule.width, WIDTHS[claim[0]])
            self.assertTrue(rule == claim_rule(claim))
            # No rule of a claim comes to the bounds of a rule that is passed.
            self.assertTrue(rule == Rule(rule.width, rule.test))

    def good_papers(self, claim, world):
        """Papers of a world like this one of which the claim is true, if it is not true of this one."""
        if is_true(claim, world):
            return papers_for(claim, world)
        word = claim[0]
        names, web = world.names, world.web
        if word in ("leader", "nearest", "balance"):
            web = Web((1,) + (0,) * (web.many - 1), web.ties)
            if word == "balance":
                web = Web((0,) * web.many, web.ties)
        lots = {"tree": lightest_tree, "nearest": near_tree, "least": lightest_tree}
        like = World(web, names, tuple(sorted(lots[word](World(web, names, ())))) if word in lots else world.picked)
        if word == "many":
            claim = ("many", web.many)
        return papers_for(claim, like) if is_true(claim, like) else None

    def drawn(self, dice, claim, world):
        """Papers drawn of small numbers and names, sometimes like good ones, sometimes with great numbers."""
        width = WIDTHS[claim[0]]
        pool = [0, 1, 2, 3, *world.names, *[tie[2] for tie in world.web.ties], 10 ** 9 - 1]
        good = self.good_papers(claim, world) if dice.randrange(4) else None
        if good is None:
            return tuple([tuple([dice.choice(pool) for _ in range(width)]) for _ in range(world.web.many)])
        rows = [list(row) for row in good]
        for _ in range(dice.choice([0, 1, 1, 2, 4])):
            house, place = dice.randrange(len(rows)), dice.randrange(width)
            near = [rows[house][place] + 1, rows[house][place] - 1]
            rows[house][place] = min(max(dice.choice([dice.choice(pool), *near]), 0), 10 ** 9 - 1)
        return tuple([tuple(row) for row in rows])

    def test_house_by_house_as_told(self):
        dice = dice_of(98)
        told = {}
        for world in some_worlds(99, 60, 7):
            for claim in [*CLAIMS, ("many", world.web.many), ("many", world.web.many + 1)]:
                judge = rule_judge(claim_rule(claim))
                for _ in range(4):
                    papers = self.drawn(dice, claim, world)
                    flags = says(world, papers, judge)
                    plain = tuple([plain_says(claim, view(world, papers, k)) for k in range(world.web.many)])
                    self.assertEqual(flags, plain, (claim, world.web.ties, world.names, papers))
                    if not is_true(claim, world):
                        self.assertIn(False, flags)
                    for flag in flags:
                        told[(claim[0], flag)] = told.get((claim[0], flag), 0) + 1
        self.assertEqual(len(told), 22)
        self.assertGreater(min(told.values()), 15)

    def test_each_single_view(self):
        # Views of two neighbours with all papers of small numbers, whether or not any world has them.
        for claim in [("leader",), ("tree",), ("sides",), ("cover",)]:
            judge = rule_judge(claim_rule(claim))
            papers = list(itertools.product(range(3), repeat=WIDTHS[claim[0]]))
            for sign, own, one, other in itertools.product((0, 1), papers, papers, papers):
                for flags in itertools.product((False, True), repeat=2):
                    seen = ((1, sign, own), ((0, 4, flags[0], 1, one), (2, 0, flags[1], 0, other)))
                    self.assertIs(judge(seen), plain_says(claim, seen))

    def test_some_views_of_wider_papers(self):
        dice = dice_of(100)
        for claim in [("many", 3), ("balance",), ("odd",), ("pairing",), ("nearest",), ("round",)]:
            judge = rule_judge(claim_rule(claim))
            told = {True: 0, False: 0}
            for _ in range(60000):
                paper = lambda: tuple([dice.choice([0, 0, 1, 1, 2, 3]) for _ in range(WIDTHS[claim[0]])])
                own = paper()
                near = []
                for name in dice.sample([0, 2, 3], dice.randrange(1, 4)):
                    row = list(paper())
                    if dice.randrange(4):
                        row[0] = own[0]
                        row[1] = dice.choice([own[1], max(0, own[1] - 1), own[1] + 1])
                    near.append((name, dice.randrange(3), dice.randrange(3) > 0, dice.randrange(3), tuple(row)))
                seen = ((1, dice.randrange(3), own), tuple(sorted(near)))
                flag = judge(seen)
                self.assertIs(flag, bool(plain_says(claim, seen)), (claim, seen))
                told[flag] += 1
            self.assertGreater(min(told.values()), 5, claim)

    def test_false_claims_and_all_papers_of_small_numbers(self):
        for claim, web, names, picked in [
                (("leader",), row_web(2), (0, 1), ()), (("leader",), row_web(3, (1, 0)), (0, 1, 2), ()),
                (("tree",), row_web(3), (0, 1, 2), (0,)), (("tree",), ring_web((0, 0, 0)), (0, 1, 2), (0, 1, 2)),
                (("sides",), ring_web((0, 0, 0)), (0, 1, 2), ()), (("sides",), ring_web((0,) * 5), (0, 1, 2, 3, 4), ()),
                (("cover",), ring_web((0, 0, 0)), (0, 1, 2), (0,)), (("cover",), row_web(4), (0, 1, 2, 3), (0, 1)),
                (("odd",), row_web(2), (0, 1), ()), (("round",), row_web(2), (0, 1), (0,)),
                (("pairing",), row_web(2), (0, 1), ()), (("nearest",), row_web(2, (1, 1)), (0, 1), (0,))]:
            world = World(web, names, picked)
            self.assertFalse(is_true(claim, world))
            judge = rule_judge(claim_rule(claim))
            papers = list(itertools.product(range(3 if web.many < 4 else 2), repeat=WIDTHS[claim[0]]))
            for rows in itertools.product(papers, repeat=web.many):
                self.assertFalse(all_yes(world, rows, judge))

    def test_papers_of_another_width(self):
        world = World(row_web(2, (1, 0)), (3, 8), (0,))
        for claim in [*CLAIMS, ("many", 2)]:
            if is_true(claim, world):
                papers = papers_for(claim, world)
                judge = rule_judge(claim_rule(claim))
                for wrong in [None, 0, (), (*papers[0], 0), papers[0][:-1], (None,) * WIDTHS[claim[0]]]:
                    self.assertEqual(says(world, (wrong, papers[1]), judge), (False, False))


class DigitsTest(unittest.TestCase):
    def test_digits(self):
        for papers, many in [
                ((0,), 1), ((1,), 1), ((2, 3), 2), (((9, 1), (9, 0), (9, 1)), 4), ((None,), 0), (((),), 0), (((None, ()), None), 0),
                ((10 ** 9 - 1,), 30), ((None, (0, (None,))), 1), (((((255,),),),), 9 - 1), ((7, (8, (1, (16,)))), 5),
                ((0,) * 100, 1), (tuple(range(100)), 7)]:
            self.assertEqual(digits_of(papers), many, papers)

    def test_no_papers(self):
        flat = (0,) * 200
        self.assertEqual(digits_of(((flat,) * 10,)), 1)
        for thing in [*odd_things(), (), (0,) * 101, [0], ((0,), [0]), (True,), (False, 0), (10 ** 9,), (-1,), ("0",),
                      ((((((1,),),),),),), ((0,) * 201,), ((flat,) * 11,), (0, True), ((0, False),), {0: 0}, range(2)]:
            # Two of the odd things are papers of one house.
            if thing in [(None,), ((0,),)]:
                self.assertLess(digits_of(thing), 2)
                continue
            with self.assertRaises(NoPapers):
                digits_of(thing)


if __name__ == "__main__":
    unittest.main()
