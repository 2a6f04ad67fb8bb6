"""Points 6.1 and 6.2: sayings, and whether they hold."""

import unittest

from nearpapers import truths
from nearpapers.errors import BadSaying, TooMany
from nearpapers.saidtrees import saying_of
from nearpapers.sayings import Saying, holds
from nearpapers.webs import Web
from tests.helper import colours, dice_of, nested, odd_things, plain_holds, random_form, random_web, ring_web, row_web

YES = ("yes",)


def within(form, *tellers):
    """A form with names told around it, the last one nearest."""
    for word, name in reversed(tellers):
        form = (word, name, form)
    return form


def nots(times):
    """A form just so deep."""
    form = YES
    for _ in range(times - 1):
        form = ("not", form)
    return form


def wide(many):
    """A form of just so many forms, an odd number, few of them deep."""
    forms = [YES] * ((many + 1) // 2)
    while len(forms) > 1:
        forms = [("both", *forms[k:k + 2]) if len(forms[k:k + 2]) == 2 else forms[k] for k in range(0, len(forms), 2)]
    return forms[0]


class SayingTest(unittest.TestCase):
    def bad(self, form):
        with self.assertRaises(BadSaying):
            Saying(form)

    def test_forms(self):
        for form in [
                YES, ("not", YES), ("both", YES, ("not", YES)), ("either", YES, YES),
                ("some", "x", ("tie", "x", "x")), within(("tie", "x", "y"), ("some", "x"), ("every", "y")),
                within(("same", "y", "x"), ("some", "x"), ("every", "y")), ("every", "abcd", ("sign", "abcd", 3)),
                within(("in", "x", "s"), ("everyset", "s"), ("some", "x")),
                within(("in", "x", "s"), ("some", "x"), ("someset", "s")), ("some", "x", YES), ("everyset", "s", YES)]:
            saying = Saying(form)
            self.assertEqual(saying.form, form)
            self.assertTrue(saying == Saying(form))

    def test_names_may_be_words(self):
        form = within(("both", ("tie", "tie", "not"), ("in", "not", "yes")), ("some", "tie"), ("every", "not"),
                      ("someset", "yes"))
        self.assertEqual(Saying(form).form, form)
        self.assertTrue(holds(Saying(("some", "some", ("sign", "some", 0))), Web((0,), ())))

    def test_equal(self):
        self.assertFalse(Saying(YES) == Saying(("not", YES)))
        self.assertFalse(Saying(YES) == YES)
        for thing in odd_things():
            self.assertFalse(Saying(YES) == thing)

    def test_odd_things(self):
        for thing in odd_things():
            self.bad(thing)
            self.bad((thing,))
            self.bad(("not", thing))
            self.bad(("both", YES, thing))
            self.bad(("both", thing, YES))
            self.bad((thing, YES))
            self.bad(("some", thing, YES))
            self.bad(("some", "x", ("tie", "x", thing)))
            self.bad(("some", "x", ("sign", "x", thing)))
            self.bad(("some", "x", ("sign", thing, 0)))
            self.bad(("someset", "s", ("some", "x", ("in", "x", thing))))
            self.bad((*YES, thing))

    def test_no_lists_and_no_other_lengths(self):
        for form in [["yes"], ("not", ["yes"]), ["not", YES], (), ("yes", "x"), ("not",), ("not", YES, YES), ("both", YES),
                     ("both", YES, YES, YES), ("some", "x"), ("some", YES), ("some", YES, "x"), ("maybe",), ("Yes",),
                     ("some", "x", ("tie", "x")), ("some", "x", ("sign", "x")), ("some", "x", ("sign", "x", 0, 0)),
                     "yes", ("tie",), ("y", "e", "s"), ("some", "x", ("in", "x"))]:
            self.bad(form)

    def test_signs(self):
        for sign in [4, -1, True, False, "0", None, 10 ** 19, (0,)]:
            self.bad(("some", "x", ("sign", "x", sign)))

    def test_names(self):
        for name in ["", "abcde", "X", "x1", "x y", " x", "x\n", "{", "`", "ab_c", b"x", ("x",), ["x"], 0, None]:
            self.bad(("some", name, YES))
            self.bad(("everyset", name, YES))
        for name in ["a", "z", "zzzz", "aa"]:
            self.assertEqual(Saying(("some", name, ("sign", name, 0))).form[1], name)

    def test_names_that_are_not_told(self):
        x, s = ("some", "x"), ("someset", "s")
        for form in [("tie", "x", "x"), ("sign", "x", 0), within(("tie", "x", "y"), x), within(("same", "y", "x"), x),
                     within(("in", "x", "s"), x), within(("in", "x", "s"), s), within(("in", "x", "x"), x),
                     within(("in", "s", "s"), s), within(("tie", "x", "s"), x, s), within(("sign", "s", 0), s),
                     within(("in", "s", "x"), x, s), ("both", ("some", "x", YES), ("sign", "x", 0)),
                     ("both", ("sign", "x", 0), ("some", "x", YES))]:
            self.bad(form)

    def test_names_told_again_within(self):
        for one in ("some", "every", "someset", "everyset"):
            for other in ("some", "every", "someset", "everyset"):
                self.bad(within(YES, (one, "x"), (other, "x")))
                self.bad(within(("not", ("both", YES, ("not", (other, "x", YES)))), (one, "x"), ("some", "y")))
                # Beside one another a name may be told again.
                form = ("both", (one, "x", YES), (other, "x", YES))
                self.assertEqual(Saying(form).form, form)

    def test_ten_deep_and_eleven(self):
        self.assertEqual(Saying(nots(10)).form, nots(10))
        self.bad(nots(11))
        self.bad(nots(40))
        self.bad(("both", YES, nots(10)))
        names = ["a", "b", "c", "d", "e", "f", "g", "h", "i"]
        self.assertEqual(Saying(within(("tie", "a", "i"), *[("some", k) for k in names])).form[1], "a")
        self.bad(within(YES, *[("some", k) for k in [*names, "j"]]))
        self.bad(nested(YES, 39, tuple))

    def test_forty_forms_and_forty_one(self):
        self.assertEqual(Saying(wide(39)).form, wide(39))
        self.assertEqual(Saying(("not", wide(39))).form, ("not", wide(39)))
        self.bad(wide(41))
        self.bad(("not", ("not", wide(39))))
        form = YES
        for _ in range(9):
            form = ("both", form, form)
        self.bad(form)


class HoldsTest(unittest.TestCase):
    def test_known_by_hand(self):
        near = ("tie", "x", "y")
        leaf = ("some", "x", ("some", "y", ("both", near, ("every", "z", (
            "either", ("same", "z", "y"), ("not", ("tie", "x", "z")))))))
        sides = ("someset", "s", ("every", "x", ("every", "y", ("either", ("not", near), (
            "either", ("both", ("in", "x", "s"), ("not", ("in", "y", "s"))),
            ("both", ("in", "y", "s"), ("not", ("in", "x", "s"))))))))
        one = ("some", "x", ("both", ("sign", "x", 1), ("every", "y", ("either", ("same", "x", "y"), (
            "not", ("sign", "y", 1))))))
        for web, truths in [(row_web(1), (False, True, False)), (row_web(4), (True, True, False)),
                            (row_web(3, (0, 1, 0)), (True, True, True)), (ring_web((0, 0, 0)), (False, False, False)),
                            (ring_web((1, 0, 2, 3)), (False, True, True)), (ring_web((1, 1, 0, 0, 0)), (False, False, False)),
                            (Web((1, 0, 0, 0), ((0, 1, 9), (0, 2, 8), (0, 3, 7), (1, 2, 6))), (True, False, True))]:
            self.assertEqual(tuple([holds(Saying(form), web) for form in (leaf, sides, one)]), truths)
            self.assertIsInstance(holds(Saying(leaf), web), bool)

    def test_the_empty_set_and_all_houses(self):
        web = row_web(3)
        for form, truth in [
                (("someset", "s", ("every", "x", ("in", "x", "s"))), True),
                (("someset", "s", ("every", "x", ("not", ("in", "x", "s")))), True),
                (("everyset", "s", ("some", "x", ("in", "x", "s"))), False),
                (("everyset", "s", ("some", "x", ("not", ("in", "x", "s")))), False),
                (("everyset", "s", YES), True), (("some", "x", ("not", YES)), False),
                (("every", "x", ("tie", "x", "x")), False), (("every", "x", ("same", "x", "x")), True),
                (("every", "x", ("someset", "s", ("in", "x", "s"))), True),
                (("someset", "s", ("every", "x", ("everyset", "t", ("either", ("in", "x", "s"), ("in", "x", "t"))))), True)]:
            self.assertIs(holds(Saying(form), web), truth)

    def check(self, number, times):
        dice = dice_of(number)
        told = {True: 0, False: 0}
        for _ in range(times):
            houses, sets = ["x", "y", "z", "tie"][:dice.randrange(1, 5)], ["s", "in"][:dice.randrange(3)]
            form = random_form(dice, houses, sets, dice.randrange(2, 5))
            saying = Saying(form)
            web = random_web(dice, dice.randrange(1, 4), signs=2, weights=2)
            truth = holds(saying, web)
            told[truth] += 1
            self.assertIs(truth, plain_holds(form, web, {}))
        self.assertGreater(min(told.values()), times // 10)

    def test_against_trying_all(self):
        self.check(61, 500)

    def test_against_trying_all_where_tables_are_too_great(self):
        bits = truths.MOST_BITS
        try:
            for truths.MOST_BITS in (1, 40, 700):
                self.check(62, 250)
        finally:
            truths.MOST_BITS = bits

    def test_many_names_at_once(self):
        web = random_web(dice_of(63), 6, signs=2)
        names = ["b", "c", "d", "e", "f", "g"]
        body = ("either", ("both", ("tie", "b", "g"), ("in", "c", "s")), ("either", ("same", "d", "e"), ("tie", "f", "g")))
        form = ("everyset", "s", within(body, *[("every" if k in "be" else "some", k) for k in names]))
        self.assertIs(holds(Saying(form), web), True)
        form = ("everyset", "s", within(("both", ("tie", "b", "g"), ("in", "c", "s")), *[("some", k) for k in names]))
        self.assertIs(holds(Saying(form), web), False)

    def test_six_houses_and_seven(self):
        saying = Saying(("someset", "s", ("everyset", "t", ("some", "x", ("either", ("in", "x", "s"), ("in", "x", "t"))))))
        self.assertIs(holds(saying, row_web(6)), True)
        three = Saying(within(YES, ("someset", "s"), ("everyset", "t"), ("someset", "u")))
        for words in (saying, three, Saying(YES)):
            with self.assertRaises(TooMany) as caught:
                holds(words, row_web(7))
            self.assertEqual(caught.exception.most, 6)

    def test_two_sets_at_once_and_three(self):
        two = within(YES, ("someset", "s"), ("some", "x"), ("everyset", "t"))
        apart = ("both", two, ("not", ("everyset", "u", ("someset", "v", YES))))
        self.assertIs(holds(Saying(("both", two, two)), row_web(2)), True)
        self.assertIs(holds(Saying(apart), row_web(2)), False)
        for form in [within(YES, ("someset", "s"), ("everyset", "t"), ("someset", "u")),
                     ("either", YES, ("not", within(YES, ("someset", "s"), ("some", "x"), ("everyset", "t"),
                                                    ("every", "y"), ("everyset", "u")))),
                     ("someset", "s", ("both", ("someset", "t", YES), ("everyset", "u", ("someset", "v", YES))))]:
            for web in (row_web(1), row_web(6)):
                with self.assertRaises(TooMany) as caught:
                    holds(Saying(form), web)
                self.assertEqual(caught.exception.most, 2)

    def test_sayings_that_functions_return(self):
        saying = saying_of(colours(1, 4))
        self.assertIs(holds(saying, ring_web((0, 0, 0, 0, 0))), True)
        with self.assertRaises(TooMany):
            holds(saying_of(colours(1, 5)), row_web(2))
        with self.assertRaises(BadSaying):
            Saying(saying.form)


if __name__ == "__main__":
    unittest.main()
