"""Points 7.1 and 7.2: rules."""

import unittest

from nearpapers.claimrules import claim_rule
from nearpapers.covers import cover
from nearpapers.errors import BadRule
from nearpapers.rules import Rule, big_rule, rule_judge
from nearpapers.webs import Web
from nearpapers.worlds import World, says, view
from tests.helper import dice_of, nested, odd_things, random_web, row_web

YES = ("yes",)
ZERO = ("number", 0)
LOOKS = [("each", YES), ("any", YES), ("below", ("count", YES), ZERO), ("below", ("sum", YES, ZERO), ZERO)]
NEAR_TERMS = [("its", 0), ("itsname",), ("itssign",), ("weight",), ("picked",)]
WORLD = World(Web((1, 3, 0, 2), ((0, 1, 7), (0, 2, 0), (0, 3, 999), (2, 3, 5))), (50, 4, 999999, 0), (0, 2))
PAPERS = ((10, 1), (20, 2), (30, 3), (999999999, 0))


def deep_test(times):
    """A test just so deep."""
    test = YES
    for _ in range(times - 1):
        test = ("not", test)
    return test


def deep_term(times):
    """A term just so deep."""
    term = ZERO
    for _ in range(times - 1):
        term = ("rest", term, 7)
    return term


def wide_test(many):
    """A test of just so many terms and tests, an odd number, few of them deep."""
    parts = [YES] * ((many + 1) // 2)
    while len(parts) > 1:
        parts = [("both", *parts[k:k + 2]) if len(parts[k:k + 2]) == 2 else parts[k] for k in range(0, len(parts), 2)]
    return parts[0]


class RuleTest(unittest.TestCase):
    def bad(self, part, width, test):
        with self.assertRaises(BadRule) as caught:
            Rule(width, test)
        self.assertEqual(caught.exception.part, part)

    def test_rules(self):
        for width, test in [
                (0, YES), (24, ("same", ("own", 23), ("number", 10 ** 9 - 1))), (1, ("each", ("same", ("its", 0), ("own", 0)))),
                (0, ("below", ("name",), ("plus", ("sign",), ("degree",)))), (2, ("any", ("below", ("its", 1), ("weight",)))),
                (0, ("same", ("sum", ("same", ("picked",), ("number", 1)), ("itsname",)), ("count", YES))),
                (0, ("same", ("rest", ("less", ZERO, ("times", ("number", 3), ("sign",))), 1000), ("rest", ZERO, 1))),
                (0, ("either", ("each", ("not", YES)), ("both", ("any", YES), ("each", YES))))]:
            rule = Rule(width, test)
            self.assertEqual((rule.width, rule.test), (width, test))
            self.assertTrue(rule == Rule(width, test))

    def test_equal(self):
        self.assertFalse(Rule(0, YES) == Rule(1, YES))
        self.assertFalse(Rule(0, YES) == Rule(0, ("not", YES)))
        for thing in [*odd_things(), YES, 0]:
            self.assertFalse(Rule(0, YES) == thing)

    def test_widths(self):
        for width in [25, -1, 10 ** 19, *odd_things()]:
            self.bad("width", width, YES)
            self.bad("width", width, None)
            self.bad("width", width, deep_test(31))
        self.assertEqual((Rule(0, YES).width, Rule(24, YES).width), (0, 24))

    def test_odd_things(self):
        for thing in odd_things():
            for test in [thing, (thing,), ("not", thing), ("both", YES, thing), ("either", thing, YES), ("each", thing),
                         ("same", ZERO, thing), ("below", thing, ZERO), ("same", ("count", thing), ZERO),
                         ("same", ("sum", YES, thing), ZERO), ("same", ("sum", thing, ZERO), ZERO),
                         ("same", ("rest", thing, 2), ZERO), ("same", ("rest", ZERO, thing), ZERO),
                         ("same", ("number", thing), ZERO), ("same", ("own", thing), ZERO), (thing, YES),
                         ("each", ("same", ("its", thing), ZERO)), ("same", ("plus", ZERO, thing), ZERO), (*YES, thing)]:
                self.bad("test", 3, test)

    def test_words_and_lengths(self):
        for test in [(), ("no",), ("yes", YES), ("not",), ("not", YES, YES), ("both", YES), ("both", YES, YES, YES), ["yes"],
                     ("not", ["yes"]), ("same", ZERO), ("same", ZERO, ZERO, ZERO), ("each",), ("each", YES, YES), "yes",
                     ("same", ("number",), ZERO), ("same", ("number", 0, 0), ZERO), ("same", ("name", 0), ZERO),
                     ("same", ("rest", ZERO), ZERO), ("same", ("rest", 2, ZERO), ZERO), ("same", ("sum", YES), ZERO),
                     ("same", ("sum", ZERO, YES), ZERO), ("same", ("count", YES, YES), ZERO), ("same", ["number", 0], ZERO),
                     ("same", YES, YES), ("not", ZERO), ZERO, ("number", 0), ("both", ZERO, ZERO), ("Yes",),
                     ("same", ("maybe",), ZERO), ("same", 0, 0), ("each", ZERO), ("same", ("each", YES), ZERO)]:
            self.bad("test", 3, test)

    def test_numbers(self):
        for number in [10 ** 9, -1, True, False, 10 ** 19]:
            self.bad("test", 0, ("same", ("number", number), ZERO))
        for place in [3, -1, True, False, None, 10 ** 9]:
            self.bad("test", 3, ("same", ("own", place), ZERO))
            self.bad("test", 3, ("each", ("same", ("its", place), ZERO)))
        self.bad("test", 0, ("same", ("own", 0), ZERO))
        for divisor in [0, 1001, -1, True, 10 ** 19]:
            self.bad("test", 0, ("same", ("rest", ZERO, divisor), ZERO))
        for divisor in [1, 1000]:
            self.assertEqual(Rule(0, ("same", ("rest", ZERO, divisor), ZERO)).width, 0)

    def test_terms_of_neighbours_stand_in_a_look_around_alone(self):
        for term in NEAR_TERMS:
            test = ("same", term, ZERO)
            self.bad("test", 1, test)
            self.bad("test", 1, ("both", ("each", test), test))
            self.bad("test", 1, ("not", ("same", ("plus", ZERO, term), ZERO)))
            for look in [("each", test), ("any", ("not", test)), ("same", ("count", test), ZERO),
                         ("same", ("sum", test, ZERO), ZERO), ("same", ("sum", YES, ("times", term, term)), ZERO)]:
                self.assertEqual(Rule(1, look).test, look)

    def test_no_look_around_within_another_one(self):
        for test in LOOKS:
            self.assertEqual(Rule(0, ("both", test, test)).width, 0)
            for outer in [("each", test), ("any", ("not", test)), ("same", ("count", ("both", YES, test)), ZERO),
                          ("same", ("sum", test, ZERO), ZERO)]:
                self.bad("test", 0, outer)
        for term in [("count", YES), ("sum", YES, ZERO)]:
            self.bad("test", 0, ("same", ("sum", YES, term), ZERO))
            self.bad("test", 0, ("each", ("same", ("rest", term, 3), ZERO)))

    def test_thirty_deep_and_thirty_one(self):
        self.assertEqual(Rule(0, deep_test(30)).test, deep_test(30))
        self.assertEqual(Rule(0, ("same", ZERO, deep_term(29))).width, 0)
        for test in [deep_test(31), deep_test(40), ("same", ZERO, deep_term(30)), ("each", deep_test(30)),
                     nested(YES, 38, tuple), ("not", nested(YES, 38, list))]:
            self.bad("test", 0, test)

    def test_two_thousand_parts_and_one_more(self):
        self.assertEqual(Rule(0, ("not", wide_test(1999))).test, ("not", wide_test(1999)))
        self.bad("test", 0, wide_test(2001))
        self.bad("test", 0, ("not", ("not", wide_test(1999))))
        # Terms count as tests do.
        self.assertEqual(Rule(0, ("both", ("same", ZERO, ZERO), ("not", wide_test(1995)))).width, 0)
        self.bad("test", 0, ("both", ("same", ZERO, ZERO), ("not", ("not", wide_test(1995)))))


class JudgeTest(unittest.TestCase):
    def flags(self, test, world=WORLD, papers=PAPERS, width=2):
        return says(world, papers, rule_judge(Rule(width, test)))

    def values(self, term):
        """What a term tells at each house, found by asking whether it is below numbers."""
        told = []
        judge = lambda number: rule_judge(big_rule(2, ("same", term, number)))
        for house in range(WORLD.web.many):
            seen = view(WORLD, PAPERS, house)
            found = [n for n in range(-40, 1100) if judge(("less", ("number", max(n, 0)), ("number", max(-n, 0))))(seen)]
            told.append(found[0] if found else None)
        return told

    def test_terms(self):
        for term, values in [
                (("number", 5), [5, 5, 5, 5]), (("own", 0), [10, 20, 30, None]), (("own", 1), [1, 2, 3, 0]),
                (("name",), [50, 4, None, 0]), (("sign",), [1, 3, 0, 2]), (("degree",), [3, 1, 2, 2]),
                (("plus", ("own", 0), ("own", 1)), [11, 22, 33, None]), (("less", ("own", 1), ("own", 0)), [-9, -18, -27, None]),
                (("times", ("own", 1), ("own", 0)), [10, 40, 90, 0]), (("rest", ("own", 0), 7), [3, 6, 2, 999999999 % 7]),
                (("rest", ("less", ("own", 1), ("own", 0)), 7), [5, 3, 1, -999999999 % 7]),
                (("rest", ("less", ZERO, ("number", 1)), 1000), [999] * 4), (("rest", ("own", 0), 1), [0] * 4),
                (("count", YES), [3, 1, 2, 2]), (("count", ("below", ("own", 1), ("its", 1))), [2, 0, 0, 2]),
                (("count", ("same", ("picked",), ("number", 1))), [2, 1, 0, 1]),
                (("sum", YES, ("weight",)), [1006, 7, 5, 1004]), (("sum", YES, ("itssign",)), [5, 1, 3, 1]),
                (("sum", ("below", ("itsname",), ("number", 100)), ("itsname",)), [4, 50, 50, 50]),
                (("sum", YES, ("times", ("picked",), ("weight",))), [1006, 7, 0, 999]),
                (("sum", ("not", YES), ("itsname",)), [0] * 4), (("sum", YES, ("less", ZERO, ("its", 1))), [-5, -1, -1, -4])]:
            self.assertEqual(self.values(term), values, term)

    def test_tests(self):
        yes, no = (True,) * 4, (False,) * 4
        for test, flags in [
                (YES, yes), (("not", YES), no), (("same", ("sign",), ("number", 3)), (False, True, False, False)),
                (("below", ("sign",), ("number", 2)), (True, False, True, False)), (("below", ZERO, ZERO), no),
                (("both", YES, ("not", YES)), no), (("both", YES, YES), yes), (("either", ("not", YES), YES), yes),
                (("either", ("not", YES), ("not", YES)), no), (("each", ("not", YES)), no),
                (("each", ("below", ("weight",), ("number", 10))), (False, True, True, False)),
                (("any", ("same", ("weight",), ZERO)), (True, False, True, False)),
                (("any", ("same", ("itsname",), ("number", 50))), (False, True, True, True)),
                (("any", ("same", ("picked",), ("number", 1))), (True, True, False, True)),
                (("each", ("same", ("picked",), ("number", 1))), (False, True, False, False)),
                (("each", ("below", ("itssign",), ("sign",))), (False, True, False, True))]:
            self.assertEqual(self.flags(test), flags, test)
        self.assertEqual(says(World(Web((0,), ()), (1,), ()), ((1, 2),), rule_judge(Rule(2, ("any", YES)))), (False,))
        self.assertEqual(says(World(Web((0,), ()), (1,), ()), ((1, 2),), rule_judge(Rule(2, ("each", ("not", YES))))), (True,))

    def test_papers_of_another_kind(self):
        for paper in [None, 7, (), (1,), (1, 2, 3), (None, 1), ((1, 2),), (1, (2,)), ((), ())]:
            for house in range(4):
                papers = tuple([paper if k == house else PAPERS[k] for k in range(4)])
                near = [[1, 2, 3], [0], [0, 3], [0, 2]][house]
                self.assertEqual(self.flags(YES, papers=papers),
                                 tuple([k != house and k not in near for k in range(4)]))
        self.assertEqual(self.flags(YES, papers=((),) * 4, width=0), (True,) * 4)
        self.assertEqual(self.flags(YES, papers=((), (), (), (0,)), width=0), (False, True, False, False))

    def test_views_with_flags_and_lists_for_papers(self):
        judge = rule_judge(Rule(1, YES))
        for paper in [(True,), [1], (10 ** 9,), (-1,), "a", 1]:
            self.assertIs(judge(((None, 0, paper), ())), False)
            self.assertIs(judge(((None, 0, (1,)), ((None, 0, False, 0, paper),))), False)
        self.assertIs(judge(((None, 0, (10 ** 9 - 1,)), ())), True)

    def test_nameless_houses(self):
        world = World(WORLD.web, None, (0, 2))
        self.assertEqual(self.flags(("same", ("name",), ZERO), world), (True,) * 4)
        self.assertEqual(self.flags(("each", ("same", ("itsname",), ZERO)), world), (True,) * 4)
        self.assertEqual(self.flags(("any", ("same", ("picked",), ("number", 1))), world), (True, True, False, True))

    def test_a_flag_is_told(self):
        for test in LOOKS + [YES, ("not", YES), ("same", ZERO, ZERO)]:
            for flag in self.flags(test):
                self.assertIsInstance(flag, bool)

    def test_great_worlds_and_great_rules(self):
        web = row_web(8)
        great, _ = cover(web, 4, ((0, 1, 2, 3),) * 7)
        self.assertEqual(great.many, 8)
        ring = Web((0,) * 9, tuple(sorted([(0, 8, 0)] + [(k, k + 1, 0) for k in range(8)])))
        great, _ = cover(ring, 4, ((1, 2, 3, 0),) + ((0, 1, 2, 3),) * 8)
        self.assertEqual(great.many, 36)
        judge = rule_judge(Rule(1, ("each", ("not", ("same", ("own", 0), ("its", 0))))))
        self.assertEqual(says(World(great, None, ()), ((0,),) * 36, judge), (False,) * 36)
        rule = claim_rule(("least",))
        self.assertEqual(big_rule(rule.width, rule.test), rule)
        self.assertEqual(rule_judge(big_rule(0, wide_test(2001)))(((None, 0, ()), ())), True)
        deep = rule_judge(big_rule(0, deep_test(150)))
        self.assertEqual(deep(((None, 0, ()), ())), False)

    def test_against_python(self):
        dice = dice_of(81)
        for _ in range(60):
            web = random_web(dice, dice.randrange(1, 7), weights=9)
            picked = tuple([k for k in range(len(web.ties)) if dice.randrange(2)])
            world = World(web, tuple(dice.sample(range(50), web.many)), picked)
            papers = tuple([(dice.randrange(4), dice.randrange(4)) for _ in range(web.many)])
            rule = Rule(2, ("same", ("sum", ("below", ("own", 0), ("its", 1)), ("plus", ("weight",), ("itsname",))),
                            ("times", ("count", ("same", ("picked",), ("number", 1))), ("rest", ("name",), 5))))
            plain = []
            for house in range(web.many):
                own, near = view(world, papers, house)
                plain.append(sum(row[1] + row[0] for row in near if own[2][0] < row[4][1])
                             == sum(row[2] for row in near) * (own[0] % 5))
            self.assertEqual(says(world, papers, rule_judge(rule)), tuple(plain))


if __name__ == "__main__":
    unittest.main()
