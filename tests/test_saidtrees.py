"""Points 6.3 and 6.4: sayings led into knowers, and books into sayings."""

import itertools
import unittest

from nearpapers.books import Book
from nearpapers.branches import alike, unlike_kinds
from nearpapers.climbers import reached
from nearpapers.errors import NoNumber, TooMany
from nearpapers.exchange import book_of, knower_of
from nearpapers.joining import turned
from nearpapers.knowers import Knower, knows
from nearpapers.marking import marked
from nearpapers.saidforms import free_names, listed, sets_at_once
from nearpapers.saidkinds import marks_for
from nearpapers.saidsets import MarkedSets
from nearpapers.saidtrees import Bits, kinds_of_row, knower_for, saying_of
from nearpapers.sayings import Saying, big_saying, holds
from nearpapers.webs import Web, slim
from tests.helper import E, colours, dice_of, knows_all, odd_things, plain_holds, random_book, random_form, random_web
from tests.helper import remainder, ring_web, row_web, small_trees

NEAR = ("tie", "x", "y")
# Just 20 branches are unlike for the form within all that tell its names, then just 21.
NOT_WIDE = [
    (1, ("both", ("not", ("tie", "z", "y")), ("either", ("in", "y", "s"), ("tie", "x", "z"))), "xyz", "s"),
    (2, ("both", ("not", ("tie", "y", "x")), ("either", ("sign", "y", 1), ("tie", "z", "x"))), "xyz", ""),
]
JUST_WIDE = [
    (1, ("either", ("both", ("tie", "x", "w"), ("tie", "z", "x")), ("both", ("tie", "x", "w"), ("same", "w", "y"))),
     "wxyz", ""),
    (1, ("both", ("either", ("same", "y", "z"), ("tie", "w", "y")), ("not", ("same", "z", "x"))), "wxyz", ""),
    (1, ("either", ("both", ("in", "x", "s"), ("in", "y", "s")), ("either", ("tie", "y", "z"), ("tie", "y", "x"))),
     "xyz", "s"),
]


def told_around(body, houses, sets, word="some", setword="someset"):
    for name in sets:
        body = (setword, name, body)
    for name in houses:
        body = (word, name, body)
    return body


def unlike_for(body, signs):
    """How many branches are unlike for a form, as saidtrees tells it."""
    rows = listed(body)
    frees = free_names(rows)
    bits = Bits(frees)
    made = []
    for row, pairs in zip(rows, frees):
        marks = marks_for(signs, bits.bits_of(pairs))
        made.append(kinds_of_row(row, made, marks, bits.full_of(pairs), bits))
    return len(made[-1].classes()[0])


def plain_branches(signs, most):
    """All branches of at most so many houses: (signs, ups), each house behind the one above it."""
    told = []
    for many in range(1, most + 1):
        for ups in itertools.product(*[range(house) for house in range(1, many)]):
            ups = (-1, *ups)
            if all(sum(up == house for up in ups) <= 2 for house in range(many)):
                told.extend([(row, ups) for row in itertools.product(range(signs), repeat=many)])
    return told


def plain_unlike(body, signs, houses, sets, most):
    """How many branches of few houses, with marks for names, are unlike for a form, tied to all such branches."""
    branches = [one for row, ups in plain_branches(signs, most) for one in all_marked(row, ups, houses, sets)]
    rows = set()
    kept = {}
    for one in branches:
        rows.add(tuple([plain_tied(body, houses, sets, one, other, kept) for other in branches]))
    return len(rows)


def all_marked(row, ups, houses, sets):
    """All ways to mark names on the houses of a branch, a name of a house on one of them or on none."""
    many = len(row)
    return [(row, ups, placed, lots) for placed in itertools.product([None, *range(many)], repeat=len(houses))
            for lots in itertools.product(range(1 << many), repeat=len(sets))]


def plain_many_sets(body, houses, sets, own, most):
    """How many unlike sets of kinds branches of few houses have by all ways to mark one name, of one sign."""
    shapes = plain_branches(1, most)
    tied_to = [one for row, ups in shapes if len(row) < 3 for one in all_marked(row, ups, houses, sets)]
    kept, found = {}, {}
    for row, ups in shapes:
        for one in all_marked(row, ups, houses, sets):
            placed = [where for name, where in zip(houses, one[2]) if name != own]
            lots = [lot for name, lot in zip(sets, one[3]) if name != own]
            kind = tuple([plain_tied(body, houses, sets, one, other, kept) for other in tied_to])
            found.setdefault((row, ups, tuple(placed), tuple(lots)), set()).add(kind)
    return len({frozenset(kinds) for kinds in found.values()})


def many_sets_for(body, own, signs=1):
    """How many unlike sets branches have for the form that tells one more name around a form."""
    rows = listed(body)
    frees = free_names(rows)
    bits = Bits(frees)
    made = []
    for row, pairs in zip(rows, frees):
        made.append(kinds_of_row(row, made, marks_for(signs, bits.bits_of(pairs)), bits.full_of(pairs), bits))
    rest = [pair for pair in frees[-1] if pair[0] != own]
    marks = marks_for(signs, bits.bits_of(rest))
    told = [pair for pair in frees[-1] if pair[0] == own][0]
    sets = MarkedSets(made[-1], marks, bits.full_of(rest), bits.bit(told))
    return len({state[1] for state in reached(len(marks), sets.step, 1000)})


def plain_tied(body, houses, sets, one, other, kept):
    """Whether a form is true of two branches tied, each name of a house standing on just one house."""
    many = len(one[0])
    told = {}
    for name, here, there in zip(houses, one[2], other[2]):
        if (here is None) == (there is None):
            return False
        told[name] = here if there is None else many + there
    for name, here, there in zip(sets, one[3], other[3]):
        told[name] = [k for k in range(many + len(other[0])) if ((here | there << many) >> k) & 1]
    shape = (one[0], one[1], other[0], other[1])
    if shape not in kept:
        ties = [(0, many, 0), *[(up, k, 0) for k, up in enumerate(one[1]) if up >= 0],
                *[(many + up, many + k, 0) for k, up in enumerate(other[1]) if up >= 0]]
        kept[shape] = Web(one[0] + other[0], tuple(sorted(ties)))
    return plain_holds(body, kept[shape], told)


class KnowerForTest(unittest.TestCase):
    def too_many(self, most, form, signs=1):
        with self.assertRaises(TooMany) as caught:
            knower_for(Saying(form), signs)
        self.assertEqual(caught.exception.most, most)

    def test_known_by_hand(self):
        some = Saying(("some", "x", ("sign", "x", 1)))
        self.assertIs(knows(knower_for(some, 2), row_web(3, (0, 1, 0))), True)
        self.assertIs(knows(knower_for(some, 2), row_web(3)), False)
        self.assertEqual(knower_for(some, 2).kinds, 2)
        self.assertEqual(knower_for(some, 1).kinds, 1)
        self.assertTrue(alike(turned(knower_for(some, 1)), knows_all(1)))
        three = ("some", "x", ("some", "y", ("some", "z", ("both", ("not", ("same", "x", "y")), ("both", (
            "not", ("same", "y", "z")), ("not", ("same", "x", "z")))))))
        for web in [row_web(1), row_web(2), row_web(3), row_web(9)]:
            self.assertIs(knows(knower_for(Saying(three), 1), web), web.many >= 3)

    def test_sets_say_more(self):
        # Houses of a set are each paired with one house out of it: what E knows.
        just = ("some", "y", ("both", ("both", NEAR, ("in", "y", "s")), ("every", "z", (
            "either", ("same", "y", "z"), ("not", ("both", ("tie", "x", "z"), ("in", "z", "s")))))))
        self.assertEqual(knower_for(Saying(("someset", "s", ("every", "x", just))), 1).signs, 1)
        # A row of just two ends is shown to be of even length by sides that both ends are on.
        even = ("someset", "s", ("both", ("every", "x", ("every", "y", ("either", ("not", NEAR), (
            "not", ("either", ("both", ("in", "x", "s"), ("in", "y", "s")),
                    ("not", ("either", ("in", "x", "s"), ("in", "y", "s")))))))), ("every", "x", (
                        "either", ("in", "x", "s"), ("some", "y", ("some", "z", ("both", (
                            "both", NEAR, ("tie", "x", "z")), ("not", ("same", "y", "z")))))))))
        knower = knower_for(Saying(even), 1)
        for many in range(1, 9):
            self.assertIs(knows(knower, row_web(many)), many % 2 == 1)

    def test_against_all_small_trees(self):
        dice = dice_of(71)
        kinds = {}
        while sum(kinds.values()) < 160:
            houses, sets = ["x", "y", "z"][:dice.randrange(1, 4)], ["s", "t"][:dice.randrange(3)]
            form = random_form(dice, houses, sets, dice.randrange(2, 5))
            signs = dice.choice([1, 2, 2, 3])
            try:
                knower = knower_for(Saying(form), signs)
            except TooMany:
                continue
            kinds[knower.kinds] = kinds.get(knower.kinds, 0) + 1
            self.assertEqual(knower.signs, signs)
            self.assertEqual(unlike_kinds(knower), tuple(range(knower.kinds)))
            for _, web in small_trees(signs)[:70]:
                if web.many <= 6:
                    self.assertIs(knows(knower, web), holds(Saying(form), web), form)
        self.assertGreater(len(kinds), 3)

    def test_least_and_sound(self):
        for form in [("some", "x", ("every", "y", ("either", ("same", "x", "y"), NEAR))),
                     ("every", "x", ("sign", "x", 1)), ("someset", "s", ("some", "x", ("in", "x", "s")))]:
            for signs in (1, 2, 3):
                knower = knower_for(Saying(form), signs)
                self.assertTrue(knower == Knower(knower.signs, knower.kinds, knower.steps, knower.wholes))

    def test_numbers_of_signs(self):
        wide = Saying(told_around(JUST_WIDE[0][1], "wxyz", ""))
        for signs in [0, 4, -1, 10 ** 19, *odd_things()]:
            for saying in (Saying(("yes",)), wide):
                with self.assertRaises(NoNumber):
                    knower_for(saying, signs)

    def test_four_names_and_five(self):
        four = ("both", ("tie", "x", "y"), ("tie", "z", "w"))
        self.assertEqual(knower_for(Saying(told_around(four, "xyzw", "")), 1).signs, 1)
        five = ("both", four, ("in", "x", "s"))
        self.too_many(4, told_around(five, "xyzw", "s"))
        self.too_many(4, ("not", told_around(("either", ("in", "x", "s"), four), "xyzw", "s")), 3)
        # Names count where they stand and are told around; told ones that do not stand do not.
        apart = ("both", ("both", ("sign", "x", 0), ("sign", "y", 0)), ("some", "v", ("tie", "v", "v")))
        self.assertEqual(knower_for(Saying(told_around(apart, "xyzwu", "s")), 1).signs, 1)
        once = ("both", ("sign", "x", 0), ("both", ("sign", "y", 0), ("some", "v", ("both", ("tie", "x", "v"), (
            "tie", "z", "v")))))
        self.assertEqual(knower_for(Saying(told_around(once, "xyz", "")), 1).signs, 1)
        within = ("some", "v", ("both", ("tie", "x", "v"), ("both", ("tie", "z", "v"), ("both", ("tie", "y", "v"), (
            "tie", "w", "v")))))
        self.too_many(4, told_around(within, "xyzw", ""))
        # Five names go ahead of what is wide.
        self.too_many(4, ("both", told_around(JUST_WIDE[0][1], "wxyz", ""), told_around(five, "xyzw", "s")))

    def test_unlike_branches_by_trying(self):
        for body, signs, houses, sets, many, most in [
                (("yes",), 2, "", "", 1, 2), (("sign", "x", 0), 1, "x", "", 2, 2), (("sign", "x", 0), 2, "x", "", 3, 2),
                (("in", "x", "s"), 1, "x", "s", 3, 2), (("same", "x", "y"), 1, "xy", "", 3, 2),
                (("same", "x", "x"), 1, "x", "", 2, 2), (("tie", "x", "x"), 1, "x", "", 1, 2),
                (NEAR, 1, "xy", "", 5, 3), (("not", NEAR), 1, "xy", "", 7, 3),
                (("either", ("in", "x", "s"), NEAR), 1, "xy", "s", 7, 2),
                (("either", ("sign", "x", 0), ("sign", "y", 0)), 2, "xy", "", 7, 2),
                (("some", "y", ("both", NEAR, ("in", "y", "s"))), 1, "x", "s", None, 3),
                (("every", "y", ("either", ("not", NEAR), ("sign", "y", 0))), 2, "x", "", None, 3),
                (("someset", "s", ("both", ("in", "x", "s"), ("not", ("in", "y", "s")))), 1, "xy", "", None, 2)]:
            plain = plain_unlike(body, signs, houses, sets, most)
            self.assertEqual(unlike_for(body, signs), plain, body)
            self.assertIn(many, (plain, None))

    def test_twenty_unlike_branches_and_more(self):
        for signs, body, houses, sets in NOT_WIDE:
            self.assertEqual(unlike_for(body, signs), 20)
        for signs, body, houses, sets in JUST_WIDE:
            self.assertEqual(unlike_for(body, signs), 21)
            for word in ("some", "every"):
                self.too_many(20, told_around(body, houses, sets, word), signs)
                self.too_many(20, ("either", ("yes",), told_around(body, houses, sets, word)), signs)
        signs, body, houses, _ = NOT_WIDE[1]
        saying = Saying(told_around(body, houses, ""))
        knower = knower_for(saying, signs)
        for _, web in small_trees(signs)[:60]:
            self.assertIs(knows(knower, web), holds(saying, web))

    def test_twenty_by_trying(self):
        # Branches of few houses are enough to tell all of them apart.
        for many, (signs, body, houses, sets) in [(20, NOT_WIDE[0]), (20, NOT_WIDE[1]), (21, JUST_WIDE[2])]:
            self.assertEqual(plain_unlike(body, signs, houses, sets, 2), many)

    def test_more_than_two_hundred_sets(self):
        few = ("both", ("in", "y", "t"), ("either", ("both", ("in", "y", "s"), ("sign", "x", 1)), (
            "either", ("tie", "y", "x"), ("same", "y", "x"))))
        many = ("both", ("in", "y", "t"), ("either", ("both", ("in", "y", "s"), ("sign", "x", 1)), ("tie", "y", "x")))
        form = ("someset", "s", ("everyset", "t", ("every", "x", ("some", "y", few))))
        for signs in (1, 2, 3):
            self.assertEqual(knower_for(Saying(form), signs).kinds, 1)
        form = ("someset", "s", ("everyset", "t", ("every", "x", ("some", "y", many))))
        for signs in (2, 3):
            self.too_many(20, form, signs)
        # Each of the forms has at most 20 unlike branches: what is wide is wide by its sets alone.
        for part in (many, form[2][2][2], form[2][2]):
            self.assertLessEqual(unlike_for(part, 2), 20)

    def test_sets_by_trying(self):
        in_set, other = ("in", "x", "s"), ("in", "y", "s")
        for body, houses, sets, own in [
                (NEAR, "xy", "", "y"), (NEAR, "xy", "", "x"), (("same", "x", "y"), "xy", "", "x"), (in_set, "x", "s", "s"),
                (in_set, "x", "s", "x"), (("not", in_set), "x", "s", "x"), (("not", NEAR), "xy", "", "y"),
                (("both", in_set, ("not", other)), "xy", "s", "y"), (("either", ("not", NEAR), other), "xy", "s", "x"),
                (("both", NEAR, other), "xy", "s", "s")]:
            self.assertEqual(many_sets_for(body, own), plain_many_sets(body, houses, sets, own, 3), (body, own))

    def test_wide_is_no_matter_of_how_it_is_put(self):
        for body in [("not", ("not", NEAR)), ("both", NEAR, NEAR), ("either", NEAR, ("not", ("yes",))),
                     ("both", ("either", NEAR, ("sign", "x", 0)), NEAR)]:
            self.assertEqual(unlike_for(body, 1), 5)


class SayingOfTest(unittest.TestCase):
    def books(self):
        dice = dice_of(72)
        return [random_book(dice, signs, marks, part) for part in (8, 20, 40, 80)
                for signs, marks in [(1, 1), (1, 2), (2, 1), (1, 3), (2, 2), (1, 4), (3, 1), (3, 2), (2, 4)]] + [
                    Book(1, 1, ()), Book(3, 12, ()), colours(1, 2), colours(2, 3), book_of(knows_all(1)),
                    Book(1, 12, ((0, 3, ((0, 7),)), (0, 7, ((0, 3),)), (0, 7, ((0, 4),))))]

    def test_against_all_small_webs(self):
        dice = dice_of(73)
        webs = [random_web(dice, dice.randrange(1, 6), signs=dice.choice([1, 2, 2, 4]), more=2) for _ in range(90)]
        webs = [web for web in webs if slim(web)] + [ring_web((0,) * 3), ring_web((0, 1, 0, 1)), ring_web((0,) * 5)]
        told = {True: 0, False: 0}
        for book in self.books():
            saying = saying_of(book)
            self.assertLessEqual(sets_at_once(listed(saying.form)), 2)
            for web in dice.sample(webs, 14) + webs[-3:]:
                truth = holds(saying, web)
                told[truth] += 1
                self.assertIs(truth, max(web.signs) < book.signs and marked(book, web) is not None)
        self.assertGreater(min(told.values()), 100)

    def test_signs_that_are_not_below(self):
        book = colours(2, 2)
        for signs, truth in [((0, 1), True), ((0, 2), False), ((3, 1), False), ((2, 2), False)]:
            self.assertIs(holds(saying_of(book), Web(signs, ((0, 1, 0),))), truth)

    def test_names_and_sets(self):
        for marks in range(1, 13):
            saying = saying_of(colours(1, marks))
            self.assertIsInstance(saying, Saying)
            self.assertEqual(sets_at_once(listed(saying.form)), (marks - 1).bit_length())
            most = max([len(pairs) for pairs in free_names(listed(saying.form))])
            self.assertEqual(most <= 4, marks <= 4)
        with self.assertRaises(TooMany) as caught:
            knower_for(saying_of(colours(1, 6)), 1)
        self.assertEqual(caught.exception.most, 4)

    def test_each_name_is_told_once(self):
        for book in self.books():
            self.check_names(saying_of(book).form, ())

    def check_names(self, form, told):
        word = form[0]
        if word in ("some", "every", "someset", "everyset"):
            self.assertNotIn(form[1], told)
            told = (*told, form[1])
        for part in form[1:]:
            if isinstance(part, tuple):
                self.check_names(part, told)
            elif isinstance(part, str):
                self.assertIn(part, told)

    def test_the_main_fact(self):
        done = 0
        dice = dice_of(74)
        for signs, marks in [(1, 1), (1, 2), (2, 1), (1, 2), (1, 3), (3, 1), (1, 2), (2, 2)]:
            for part in (15, 30, 60, 85):
                book = random_book(dice, signs, marks, part)
                try:
                    by_saying, by_book = knower_for(saying_of(book), signs), knower_of(book)
                except TooMany:
                    continue
                self.assertTrue(alike(by_saying, by_book))
                self.assertEqual(by_saying.kinds, by_book.kinds)
                done += 1
        self.assertGreater(done, 15)

    def test_from_a_knower_to_a_saying(self):
        for knower in [E, remainder(2, 2, 1)]:
            book = book_of(knower)
            self.assertEqual(book.marks, 6)
            saying = saying_of(book)
            self.assertEqual(sets_at_once(listed(saying.form)), 3)
            with self.assertRaises(TooMany):
                holds(saying, row_web(3))
        kept = knower_for(Saying(("every", "x", ("sign", "x", 1))), 2)
        self.assertEqual(kept.kinds, 2)
        small = book_of(knows_all(1))
        self.assertTrue(alike(knower_for(saying_of(small), 1), knows_all(1)))

    def test_great_sayings_are_taken(self):
        saying = saying_of(colours(3, 4))
        self.assertGreater(len(listed(saying.form)), 1500)
        self.assertTrue(saying == saying_of(colours(3, 4)))
        self.assertIs(holds(saying, row_web(4, (0, 1, 2))), True)
        form = ("sign", "x", 0)
        for _ in range(200):
            form = ("not", form)
        self.assertIs(holds(big_saying(("some", "x", form)), row_web(3, (0, 1, 0))), True)
        self.assertEqual(knower_for(big_saying(("some", "x", form)), 2).kinds, 2)


if __name__ == "__main__":
    unittest.main()
