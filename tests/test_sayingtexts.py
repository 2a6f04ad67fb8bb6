"""Point 16.2: sayings and rules as texts."""

import unittest

from nearpapers.books import Book
from nearpapers.claimrules import claim_rule
from nearpapers.errors import BadRule, BadSaying, BadWord
from nearpapers.rules import Rule
from nearpapers.saidtrees import saying_of
from nearpapers.sayings import Saying
from nearpapers.sayingtexts import read_rule, read_saying, rule_text, saying_text
from tests.claimwords import CLAIMS
from tests.helper import colours, dice_of, odd_things, random_form

FORMS = {"yes": "", "tie": "nn", "same": "nn", "sign": "nk", "in": "nn", "not": "f", "both": "ff", "either": "ff",
         "some": "nf", "every": "nf", "someset": "nf", "everyset": "nf"}
TESTS = {"yes": "", "same": "tt", "below": "tt", "not": "e", "both": "ee", "either": "ee", "each": "e", "any": "e"}
TERMS = {"number": "i", "own": "i", "name": "", "sign": "", "degree": "", "its": "i", "itsname": "", "itssign": "",
         "weight": "", "picked": "", "plus": "tt", "less": "tt", "times": "tt", "rest": "ti", "count": "e", "sum": "et"}
WORDS = ["", "yes", "tie", "same", "sign", "in", "not", "both", "either", "some", "every", "someset", "everyset", "x", "y",
         "abcd", "abcde", "0", "1", "3", "4", "9", "10", "00", "01", "X", "x1", "below", "each", "any", "number", "own", "name",
         "degree", "its", "itsname", "weight", "picked", "plus", "less", "rest", "count", "sum", "999999999", "1000000000",
         "-1", "+1", "1_0", "yes\n", "\n", "*"]


class Reader:
    """Reads words one by one, each by what is due."""

    def __init__(self, words):
        self.words = words
        self.at = 0

    def word(self, fits):
        """The next word, if it fits."""
        if self.at == len(self.words) or not fits(self.words[self.at]):
            raise BadWord(self.at)
        self.at += 1
        return self.words[self.at - 1]

    def part(self, kind):
        if kind == "n":
            return self.word(lambda word: 1 <= len(word) <= 4 and all(sign in "abcdefghijklmnopqrstuvwxyz" for sign in word))
        if kind == "k":
            return int(self.word(lambda word: len(word) == 1 and word in "0123456789"))
        if kind == "i":
            return int(self.word(lambda word: 1 <= len(word) <= 9 and all(sign in "0123456789" for sign in word)
                                 and str(int(word)) == word))
        table = {"f": FORMS, "e": TESTS, "t": TERMS}[kind]
        word = self.word(lambda word: word in table)
        return (word, *[self.part(its) for its in table[word]])

    def end(self):
        if self.at < len(self.words):
            raise BadWord(self.at)


def plain_read_saying(text):
    reader = Reader(text.split(" "))
    form = reader.part("f")
    reader.end()
    return Saying(form)


def plain_read_rule(text):
    reader = Reader(text.split(" "))
    width, test = reader.part("i"), reader.part("e")
    reader.end()
    return Rule(width, test)


def what_comes(call, text):
    """What a call returns or raises, comparable."""
    try:
        return call(text)
    except (BadWord, BadSaying, BadRule) as error:
        return (type(error).__name__, vars(error))


def drawn_form(dice, deep):
    """A form, its names perhaps not told."""
    words = ["yes", "tie", "same", "sign", "in"] if deep <= 1 or dice.randrange(5) == 0 else list(FORMS)
    word = dice.choice(words)
    parts = {"n": lambda: dice.choice(["x", "y", "tie", "some"]), "k": lambda: dice.randrange(5),
             "f": lambda: drawn_form(dice, deep - 1)}
    return (word, *[parts[part]() for part in FORMS[word]])


def drawn_test(dice, part, deep):
    """A term or a test, its numbers perhaps too great."""
    table = TERMS if part == "t" else TESTS
    words = [word for word in table if deep > 1 or "t" not in table[word] and "e" not in table[word]]
    word = dice.choice(words)
    return (word, *[dice.choice([0, 1, 2, 7, 999999999]) if its == "i" else drawn_test(dice, its, deep - 1)
                    for its in table[word]])


def flat(thing):
    """The words of a form, one by one."""
    return [word for part in thing for word in (flat(part) if isinstance(part, tuple) else [str(part)])]


def spoilt(dice, text):
    words = text.split(" ")
    for _ in range(dice.randrange(1, 3)):
        at = dice.randrange(len(words) + 1)
        way = dice.randrange(5)
        if way == 0:
            words[at:at] = [dice.choice(WORDS)]
        elif way == 1:
            words[at:at + 1] = []
        elif way == 2 and at < len(words):
            other = dice.randrange(len(words))
            words[at], words[other] = words[other], words[at]
        else:
            words[at:at + 1] = [dice.choice(WORDS)]
    return " ".join(words)


class SayingTextTest(unittest.TestCase):
    def test_texts(self):
        for form, text in [
                (("yes",), "yes"), (("some", "x", ("sign", "x", 3)), "some x sign x 3"),
                (("every", "not", ("some", "tie", ("tie", "not", "tie"))), "every not some tie tie not tie"),
                (("someset", "s", ("every", "x", ("either", ("in", "x", "s"), ("not", ("same", "x", "x"))))),
                 "someset s every x either in x s not same x x"),
                (("everyset", "abcd", ("both", ("yes",), ("not", ("yes",)))), "everyset abcd both yes not yes")]:
            self.assertEqual(saying_text(Saying(form)), text)
            self.assertEqual(read_saying(text), Saying(form))

    def test_there_and_back(self):
        dice = dice_of(165)
        for _ in range(300):
            houses = ["x", "y", "zzzz"][:dice.randrange(1, 4)]
            saying = Saying(random_form(dice, houses, ["s", "not"][:dice.randrange(3)], 4))
            text = saying_text(saying)
            self.assertEqual(text, " ".join(flat(saying.form)))
            self.assertEqual(read_saying(text), saying)
            self.assertEqual(saying_text(read_saying(text)), text)

    def word(self, place, text):
        with self.assertRaises(BadWord) as caught:
            read_saying(text)
        self.assertEqual(caught.exception.place, place)

    def test_bad_word(self):
        for text in [None, 0, b"yes", ["yes"], ("yes",)] + [thing for thing in odd_things() if not isinstance(thing, str)]:
            self.word(-1, text)
        for place, text in [
                (0, ""), (0, " "), (0, " yes"), (1, "yes "), (1, "yes yes"), (0, "no"), (0, "Yes"), (1, "not"), (1, "not "),
                (1, "not  yes"), (2, "both yes"), (3, "both yes yes yes"), (1, "some"), (2, "some x"), (1, "some abcde yes"),
                (1, "some X yes"), (1, "some 1 yes"), (2, "some x x"), (3, "some x sign"), (4, "some x sign x"), (4, "some x sign x 10"),
                (4, "some x sign x x"), (4, "some x sign x 00"), (5, "some x sign x 0 0"), (4, "some x sign x "), (3, "some x sign 0 0"),
                (1, "some  yes"), (0, "x"), (0, "0"), (0, "yes\n"), (1, "yes \n"), (0, "yes\nyes"), (4, "some x tie x"), (3, "some x tie"),
                (0, "number 0"), (0, "each yes"), (0, "below name name"), (2, "either yes maybe"), (0, "not\tyes"),
                (4, "some x sign x +"), (4, "some x sign x -1"), (2, "not not"), (5001, "not " * 5000 + "yes ")]:
            self.word(place, text)

    def test_bad_saying_only_where_all_words_can_stand(self):
        for text in ["sign x 0", "some x sign x 4", "some x sign x 9", "some x sign y 0", "some x some x yes", "some x in x x",
                     "someset s sign s 0", "tie x y", "in x s", "same x x", "some x someset x yes", "not " * 10 + "yes",
                     "some x some yes both yes sign y 0"]:
            with self.assertRaises(BadSaying):
                read_saying(text)
            self.word(len(text.split(" ")), text + " yes")
            self.word(len(text.split(" ")) - 1, " ".join(text.split(" ")[:-1]))
        self.assertEqual(read_saying("not " * 9 + "yes").form[0], "not")

    def test_long_and_deep(self):
        for word, many in [("not", 4999), ("some x", 2500), ("everyset abcd", 1300)]:
            text = (word + " ") * many + "yes"
            with self.assertRaises(BadSaying):
                read_saying(text)
            self.word(len(text.split(" ")), text + " yes")
            self.word(len(text.split(" ")) - 1, text[:-4])
        with self.assertRaises(BadSaying):
            read_saying("both " * 1900 + "yes " * 1900 + "yes")
        with self.assertRaises(BadSaying):
            read_saying("both yes " * 2000 + "yes")
        self.word(0, "x " * 9000)
        self.word(4000, "both yes " * 2000)

    def test_spoilt_texts(self):
        dice = dice_of(166)
        kinds = {}
        for _ in range(5000):
            text = " ".join(flat(drawn_form(dice, 4)))
            if dice.randrange(6):
                text = spoilt(dice, text)
            told = what_comes(read_saying, text)
            self.assertEqual(told, what_comes(plain_read_saying, text), text)
            word = told[0] if isinstance(told, tuple) else "read"
            kinds[word] = kinds.get(word, 0) + 1
        self.assertEqual(sorted(kinds), ["BadSaying", "BadWord", "read"])
        self.assertGreater(min(kinds.values()), 150)

    def test_of_books(self):
        """The sayings of books may be past the bounds; their texts are written all the same."""
        for book in [colours(1, 2), colours(2, 3), Book(1, 1, ()), Book(1, 1, ((0, 0, ((0, 0),)),))]:
            saying = saying_of(book)
            text = saying_text(saying)
            self.assertEqual(text.split(" "), flat(saying.form))
            self.assertEqual(Reader(text.split(" ")).part("f"), saying.form)
            self.assertEqual(what_comes(read_saying, text), what_comes(lambda text: Saying(saying.form), text))


class RuleTextTest(unittest.TestCase):
    def test_texts(self):
        for rule, text in [
                (Rule(0, ("yes",)), "0 yes"), (Rule(24, ("not", ("yes",))), "24 not yes"),
                (Rule(1, ("each", ("not", ("same", ("own", 0), ("its", 0))))), "1 each not same own 0 its 0"),
                (Rule(2, ("below", ("rest", ("plus", ("own", 1), ("number", 999999999)), 1000), ("sum", ("yes",), ("weight",)))),
                 "2 below rest plus own 1 number 999999999 1000 sum yes weight")]:
            self.assertEqual(rule_text(rule), text)
            self.assertEqual(read_rule(text), rule)

    def test_there_and_back(self):
        dice = dice_of(167)
        read = 0
        for _ in range(1500):
            try:
                rule = Rule(dice.randrange(4), drawn_test(dice, "e", 5))
            except BadRule:
                continue
            read += 1
            text = rule_text(rule)
            self.assertEqual(text.split(" "), [str(rule.width), *flat(rule.test)])
            self.assertEqual(read_rule(text), rule)
            self.assertEqual(rule_text(read_rule(text)), text)
        self.assertGreater(read, 100)

    def test_rules_of_claims(self):
        for claim in [*CLAIMS, ("many", 1), ("many", 100)]:
            rule = claim_rule(claim)
            self.assertEqual(read_rule(rule_text(rule)), rule)

    def word(self, place, text):
        with self.assertRaises(BadWord) as caught:
            read_rule(text)
        self.assertEqual(caught.exception.place, place)

    def test_bad_word(self):
        for text in [None, 0, b"0 yes", ["0 yes"]] + [thing for thing in odd_things() if not isinstance(thing, str)]:
            self.word(-1, text)
        for place, text in [
                (0, ""), (0, "yes"), (1, "0"), (1, "0 "), (0, " 0 yes"), (1, "0  yes"), (0, "00 yes"), (0, "01 yes"), (0, "-1 yes"),
                (0, "1000000000 yes"), (0, "+1 yes"), (0, "1_0 yes"), (2, "0 yes "), (2, "0 yes yes"), (1, "0 name"), (1, "0 number 0"),
                (2, "0 same yes yes"), (2, "0 same 0 0"), (3, "0 same name"), (4, "0 same name name name"), (2, "0 each name"),
                (3, "0 same own own 0"), (3, "0 same own"), (3, "0 same own 1000000000 name"), (3, "0 same own 00 name"),
                (4, "0 same rest name name name"), (4, "0 same rest name"), (3, "0 same count name yes"), (4, "0 same sum yes yes"),
                (3, "0 same sum name yes"), (1, "0 some x yes"), (1, "0 Yes"), (2, "0 not 0"), (1, "0 maybe"), (1, "0 yes\n"),
                (0, "0\tyes"), (3, "0 below name yes")]:
            self.word(place, text)

    def test_bad_rule_only_where_all_words_can_stand(self):
        for part, text in [
                ("width", "25 yes"), ("width", "999999999 yes"), ("width", "25 same its 0 own 99"), ("test", "0 same own 0 name"),
                ("test", "1 same own 1 name"), ("test", "1 same its 0 name"), ("test", "0 same weight name"), ("test", "0 each each yes"),
                ("test", "0 each same count yes name"), ("test", "0 same rest name 0 name"), ("test", "0 same rest name 1001 name"),
                ("test", "0 " + "not " * 30 + "yes"), ("test", "0 same picked sum yes picked"),
                ("test", "24 each same its 24 name")]:
            with self.assertRaises(BadRule) as caught:
                read_rule(text)
            self.assertEqual(caught.exception.part, part)
            self.word(len(text.split(" ")), text + " 0")
            self.word(len(text.split(" ")) - 1, " ".join(text.split(" ")[:-1]))
        self.assertEqual(read_rule("0 " + "not " * 29 + "yes").test[0], "not")
        self.assertEqual(read_rule("0 same rest name 1000 number 999999999").width, 0)

    def test_long_and_deep(self):
        for text in ["3 " + "not " * 4900 + "yes", "3 " + "both yes " * 2100 + "yes", "3 " + "each " * 3900 + "yes"]:
            self.assertEqual(what_comes(read_rule, text), ("BadRule", {"part": "test"}))
            self.word(len(text.split(" ")), text + " yes")
            self.word(len(text.split(" ")) - 1, text[:-4])
        text = "3 same name " + "plus name " * 1500 + "name"
        self.assertEqual(what_comes(read_rule, text), ("BadRule", {"part": "test"}))
        text = "3 same name " + "count each same " * 1000 + "name"
        self.assertEqual(what_comes(read_rule, text)[0], "BadWord")
        self.word(11, "0 " + "both " * 9 + "yes")

    def test_spoilt_texts(self):
        dice = dice_of(168)
        kinds = {}
        for _ in range(6000):
            text = str(dice.randrange(4)) + " " + " ".join(flat(drawn_test(dice, "e", 4)))
            if dice.randrange(4):
                text = spoilt(dice, text)
            told = what_comes(read_rule, text)
            self.assertEqual(told, what_comes(plain_read_rule, text), text)
            word = told[0] if isinstance(told, tuple) else "read"
            kinds[word] = kinds.get(word, 0) + 1
        self.assertEqual(sorted(kinds), ["BadRule", "BadWord", "read"])
        self.assertGreater(min(kinds.values()), 150)


if __name__ == "__main__":
    unittest.main()
