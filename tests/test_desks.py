"""Points 17.1 and 17.2: the desk."""

import unittest

from nearpapers.claimrules import claim_rule
from nearpapers.desks import Desk
from nearpapers.errors import (BadBook, BadRule, BadSaying, BadText, BadWeb, BadWord, NearError, NoLine, NoNumber,
                               NoPapers, NothingDone, NoThing, NoTree, TooMany)
from nearpapers.exchange import shows
from nearpapers.forms import tree_of
from nearpapers.knowers import knows
from nearpapers.marking import marked
from nearpapers.rules import rule_judge
from nearpapers.saidtrees import knower_for
from nearpapers.sayings import holds
from nearpapers.sayingtexts import read_rule, read_saying, rule_text, saying_text
from nearpapers.texts import book_text, read_book, read_web, web_text
from nearpapers.webs import Web
from nearpapers.worlds import World, says
from tests.helper import colours, dice_of, odd_things, random_book, random_slim_tree, random_web, ring_web, row_web

KINDS = ("web", "book", "saying", "rule")
READERS = {"web": read_web, "book": read_book, "saying": read_saying, "rule": read_rule}
SAYINGS = ["yes", "some x sign x 1", "every x sign x 0", "some x every y either same x y tie x y", "some x both sign x 1 yes",
           "every x some y both tie x y not sign y 1", "someset s every x either in x s sign x 1",
           "someset s every x every y either not tie x y not both in x s in y s"]
RULES = ["1 each not same own 0 its 0", "0 yes", "2 below own 1 count below itssign sign", "1 same own 0 degree",
         "3 each same its 2 own 1"]


def one_line(text):
    return text.replace("\n", "|")


def drawn_text(dice, kind):
    """A text of this kind, on one line."""
    if kind == "web":
        return one_line(web_text(dice.choice([random_web(dice, dice.randrange(1, 6), signs=3, more=2, weights=3),
                                              random_slim_tree(dice, dice.randrange(1, 7), 2), ring_web((0, 1, 0))])))
    if kind == "book":
        return one_line(book_text(dice.choice([random_book(dice, dice.randrange(1, 3), 2, 25), colours(1, 2), colours(2, 2),
                                               random_book(dice, 1, 2, 50)])))
    return dice.choice(SAYINGS) if kind == "saying" else dice.choice(RULES)


def filled():
    """A desk on which some things are kept."""
    desk = Desk()
    desk.tell("web row web 0 1 0|tie 0 1 0|tie 1 2 0|")
    desk.tell("book twos " + one_line(book_text(colours(2, 2))))
    desk.tell("saying one some x sign x 1")
    desk.tell("rule sides 1 each not same own 0 its 0")
    return desk


class PlainDesk:
    """What is kept, in plain Python: after each line that can be taken back a whole picture of it."""

    def __init__(self):
        self.pictures = [{}]

    def now(self):
        return self.pictures[-1]

    def tell(self, words):
        if words[0] in KINDS:
            self.pictures.append({**self.now(), (words[0], words[1]): words[2]})
        elif words[0] == "drop":
            if (words[1], words[2]) not in self.now():
                return NoThing
            self.pictures.append({key: text for key, text in self.now().items() if key != (words[1], words[2])})
        elif words[0] == "undo":
            if len(self.pictures) == 1:
                return NothingDone
            self.pictures.pop()
        elif words[0] == "names":
            return " ".join(sorted([name for kind, name in self.now() if kind == words[1]])) or "none"
        else:
            return self.now().get((words[1], words[2]), NoThing)
        return "ok"


def look(desk):
    """All that a desk shows of what is kept."""
    told = [desk.undoable()]
    for kind in KINDS:
        names = desk.tell("names " + kind)
        told.append(names)
        if names != "none":
            told += [desk.tell("source " + kind + " " + name) for name in names.split(" ")]
    return told


class KeepingTest(unittest.TestCase):
    def test_an_empty_desk(self):
        desk = Desk()
        self.assertEqual(desk.undoable(), 0)
        for kind in KINDS:
            self.assertEqual(desk.tell("names " + kind), "none")
            for word in ("drop", "source"):
                with self.assertRaises(NoThing) as caught:
                    desk.tell(word + " " + kind + " abc")
                self.assertEqual(caught.exception.name, "abc")
        with self.assertRaises(NothingDone):
            desk.tell("undo")

    def test_kept_dropped_and_taken_back(self):
        desk = Desk()
        self.assertEqual(desk.tell("web a web 0|"), "ok")
        self.assertEqual(desk.tell("web a web 1|"), "ok")
        self.assertEqual(desk.tell("web b web 2|"), "ok")
        self.assertEqual((desk.tell("source web a"), desk.tell("names web"), desk.undoable()), ("web 1|", "a b", 3))
        self.assertEqual(desk.tell("drop web a"), "ok")
        self.assertEqual((desk.tell("names web"), desk.undoable()), ("b", 4))
        self.assertEqual(desk.tell("undo"), "ok")
        self.assertEqual((desk.tell("source web a"), desk.undoable()), ("web 1|", 3))
        self.assertEqual(desk.tell("undo"), "ok")
        self.assertEqual((desk.tell("names web"), desk.undoable()), ("a", 2))
        self.assertEqual(desk.tell("undo"), "ok")
        self.assertEqual((desk.tell("source web a"), desk.undoable()), ("web 0|", 1))
        self.assertEqual(desk.tell("undo"), "ok")
        self.assertEqual((desk.tell("names web"), desk.undoable()), ("none", 0))
        with self.assertRaises(NothingDone):
            desk.tell("undo")
        self.assertEqual(desk.tell("web a web 3|"), "ok")
        self.assertEqual(desk.tell("undo"), "ok")

    def test_names_of_each_kind_are_kept_apart(self):
        desk = Desk()
        for kind, text in [("web", "web 0|"), ("book", "book 1 1|"), ("saying", "yes"), ("rule", "0 yes")]:
            desk.tell(kind + " same " + text)
            self.assertEqual(desk.tell("source " + kind + " same"), text)
        desk.tell("drop book same")
        self.assertEqual([desk.tell("names " + kind) for kind in KINDS], ["same", "none", "same", "same"])

    def test_names_ascend(self):
        desk = Desk()
        for name in ["b", "ab", "abcdefgh", "z", "a", "ba", "web", "none", "undo"]:
            desk.tell("saying " + name + " yes")
        self.assertEqual(desk.tell("names saying"), "a ab abcdefgh b ba none undo web z")

    def test_desks_are_apart(self):
        one, other = filled(), Desk()
        self.assertEqual(other.tell("names web"), "none")
        other.tell("web row web 3|")
        self.assertEqual(one.tell("source web row"), "web 0 1 0|tie 0 1 0|tie 1 2 0|")
        other.tell("undo")
        self.assertEqual((one.undoable(), other.undoable()), (4, 0))
        for thing in [None, "", {}, *[thing for thing in odd_things() if not isinstance(thing, Desk)]]:
            self.assertFalse(one == thing)

    def test_long_days(self):
        counts = {}
        for seed in range(25):
            dice = dice_of(1700 + seed)
            desk, plain = Desk(), PlainDesk()
            names = ["a", "b", "abcdefgh", "web"]
            for _ in range(150):
                kind, name = dice.choice(KINDS), dice.choice(names)
                word = dice.choice([kind, kind, "drop", "drop", "names", "source", "undo", "bad"])
                if word == "bad":
                    self.refused(desk, dice, kind, name)
                    continue
                words = {"names": ["names", kind], "undo": ["undo"]}.get(word, [word, kind, name])
                if word == kind:
                    words = [kind, name, drawn_text(dice, kind)]
                due = plain.tell(words)
                counts[word if isinstance(due, str) else due] = counts.get(word if isinstance(due, str) else due, 0) + 1
                if isinstance(due, str):
                    self.assertEqual(desk.tell(" ".join(words)), due)
                else:
                    with self.assertRaises(due):
                        desk.tell(" ".join(words))
                self.assertEqual(desk.undoable(), len(plain.pictures) - 1)
                for other in KINDS:
                    for each in names:
                        if (other, each) in plain.now():
                            self.assertEqual(desk.tell("source " + other + " " + each), plain.now()[(other, each)])
        self.assertGreater(min(counts.values()), 30)
        self.assertEqual(len(counts), 10)

    def refused(self, desk, dice, kind, name):
        """Lines that are refused change nothing."""
        before = look(desk)
        for line in [kind + " " + name + " ", kind + " " + name + " x", kind + " " + name + "  " + drawn_text(dice, kind),
                     "drop " + kind + " zzz", kind + " Name " + drawn_text(dice, kind), "source " + kind, "redo", None,
                     kind + " " + name + " " + drawn_text(dice, kind) + " ", "shown zzz " + name, "undo undo"]:
            with self.assertRaises(NearError):
                desk.tell(line)
        self.assertEqual(look(desk), before)


class LinesTest(unittest.TestCase):
    def test_no_line(self):
        desk = filled()
        before = look(desk)
        lines = ["", " ", "undo ", " undo", "undo undo", "Undo", "undo\n", "web", "web row", "web row ", "web  web 0|", " web row web 0|",
                 "web a\nb web 0|", "web a web 0\n", "web abcdefghi web 0|", "web A web 0|", "web a1 web 0|", "web a-b web 0|",
                 "saying  yes", "saying a", "saying a ", "rule a", "book", "drop", "drop web", "drop web row row", "drop webs row",
                 "drop  row", "drop web row ", "drop web ROW", "drop web abcdefghi", "names", "names webs", "names web web", "names web ",
                 "names  web", "names rules", "source web", "source row web", "source webs row", "source web row ", "shown twos",
                 "shown twos row row", "shown  row", "shown twos row ", "shown TWOS row", "shown twos row1", "holds one", "holds one row x",
                 "holds on! row", "knows one", "knows one  row", "kinds one", "kinds one 10", "kinds one x", "kinds one ", "kinds one 1 ",
                 "kinds one -1", "kinds one 00", "kinds One 1", "proves twos", "proves twos one one", "proves twos on3", "says sides row",
                 "says sides row ", "says sides row 0 0", "says sides row 0 ", "says sides  0", "says sides row1 0", "ask", "ok",
                 "web\ta web 0|", "tell undo", "undoable", "show twos row", "says sides row 0\n", "copy", "kind web", "drop web row|"]
        for line in lines + [thing for thing in odd_things()] + [b"undo", ["undo"], ("undo",), 0]:
            with self.assertRaises(NoLine):
                desk.tell(line)
        self.assertEqual(look(desk), before)

    def raised(self, error, fields, line):
        desk = filled()
        before = look(desk)
        with self.assertRaises(error) as caught:
            desk.tell(line)
        self.assertEqual(type(caught.exception), error)
        self.assertEqual(vars(caught.exception), fields)
        self.assertEqual(look(desk), before)

    def test_errors_of_texts(self):
        for error, fields, line in [
                (BadText, {"line": 1}, "web row x"), (BadText, {"line": 1}, "web row  "), (BadText, {"line": 1}, "web row web 0"),
                (BadText, {"line": 1}, "web row |"), (BadText, {"line": 2}, "web row web 0||"), (BadText, {"line": 2}, "web row web 0|tie"),
                (BadText, {"line": 1}, "web row  web 0|"), (BadText, {"line": 3}, "web row web 9|tie 0 0 0|x|"),
                (BadWeb, {"part": "signs"}, "web row web 9|"), (BadWeb, {"part": "joined"}, "web new web 0 0|"),
                (BadWeb, {"part": 0}, "web row web 0 0|tie 1 0 0|"),
                (BadText, {"line": 1}, "book twos 1 1|"), (BadText, {"line": 2}, "book twos book 1 1|look 0|"),
                (BadBook, {"part": "signs"}, "book twos book 0 0|"), (BadBook, {"part": "marks"}, "book twos book 1 13|"),
                (BadBook, {"part": 0}, "book new book 1 1|look 0 1|"),
                (BadWord, {"place": 0}, "saying one x"), (BadWord, {"place": 1}, "saying one not"), (BadWord, {"place": 0}, "saying one  yes"),
                (BadWord, {"place": 1}, "saying one yes "), (BadWord, {"place": 0}, "saying one yes|"), (BadSaying, {}, "saying new sign x 0"),
                (BadWord, {"place": 0}, "rule sides yes"), (BadWord, {"place": 1}, "rule sides 0"), (BadWord, {"place": 1}, "rule sides 0 |yes"),
                (BadRule, {"part": "width"}, "rule sides 25 same own 0 name"), (BadRule, {"part": "test"}, "rule new 0 same own 0 name")]:
            self.raised(error, fields, line)

    def test_no_thing(self):
        for name, line in [
                ("no", "drop web no"), ("twos", "drop web twos"), ("row", "source book row"), ("no", "shown no row"), ("row", "shown row twos"),
                ("no", "shown twos no"), ("no", "shown no nor"), ("sides", "holds sides row"), ("no", "holds one no"), ("no", "knows no row"),
                ("twos", "knows one twos"), ("no", "kinds no 9"), ("one", "proves one twos"), ("sides", "proves twos sides"),
                ("one", "says one row x"), ("no", "says sides no ;;"), ("abcdefgh", "says abcdefgh no ;;")]:
            self.raised(NoThing, {"name": name}, line)

    def test_no_papers(self):
        for word in ["0", "0;1", "0;1;0;1", ";;", "0;1;", ";0;1", "0;;1", "0,;1;0", ",0;1;0", "0,,1;1;0", "00;1;0", "01;1;0", "-1;1;0",
                     "+1;1;0", "1_0;1;0", "1000000000;1;0", "a;1;0", "(0);1;0", "0.5;1;0", "0;1;0|", "-;1;0", "x", "0:1:0", "0,1,0",
                     ";".join([",".join(["0"] * 201), "0", "0"])]:
            self.raised(NoPapers, {}, "says sides row " + word)
        desk = filled()
        self.assertEqual(desk.tell("says sides row " + ",".join(["0"] * 200) + ";1;0"), "--+")
        self.assertEqual(desk.tell("says sides row 999999999;1;0"), "+++")

    def test_what_functions_raise(self):
        desk = filled()
        desk.tell("web big " + one_line(web_text(random_web(dice_of(3), 9, more=9))))
        desk.tell("web three web 3|")
        desk.tell("web nine " + one_line(web_text(row_web(9))))
        desk.tell("saying sets someset s someset t someset u every x either in x s either in x t in x u")
        desk.tell("saying names some a some b some c some d some e both tie a b both tie b c both tie c d tie d e")
        desk.tell("web ring " + one_line(web_text(ring_web((0, 1, 2)))))
        before = look(desk)
        for error, fields, line in [
                (TooMany, {"most": 8}, "shown twos big"), (TooMany, {"most": 6}, "holds one big"), (TooMany, {"most": 6}, "holds sets nine"),
                (TooMany, {"most": 2}, "holds sets row"), (TooMany, {"most": 4}, "knows names row"), (TooMany, {"most": 4}, "knows names ring"),
                (NoTree, {}, "knows one ring"), (NoTree, {}, "knows one three"), (NoNumber, {}, "kinds one 0"), (NoNumber, {}, "kinds one 4"),
                (NoNumber, {}, "kinds names 9"), (TooMany, {"most": 4}, "kinds names 1"), (TooMany, {"most": 4}, "proves twos names")]:
            with self.assertRaises(error) as caught:
                desk.tell(line)
            self.assertEqual(vars(caught.exception), fields, line)
        self.assertEqual(look(desk), before)


class AskingTest(unittest.TestCase):
    def answer(self, things, words):
        """What a line should answer, by the functions; or the error."""
        kept = [READERS[kind](things[(kind, name)].replace("|", "\n")) for kind, name in words[1:] if kind in KINDS]
        word = words[0]
        if word == "shown":
            return "yes" if marked(*kept) is not None else "no"
        if word == "holds":
            return "yes" if holds(*kept) else "no"
        if word == "knows":
            return "yes" if knows(knower_for(kept[0], 3), kept[1]) else "no"
        if word == "kinds":
            return str(knower_for(kept[0], int(words[2][1])).kinds)
        if word == "proves":
            knower = knower_for(kept[1], kept[0].signs)
            told = shows(kept[0], knower)
            return "yes" if told is None else told[0] + " " + one_line(web_text(tree_of(told[1])))
        papers = tuple([tuple([int(number) for number in paper.split(",")]) for paper in words[3][1].split(";")])
        flags = says(World(kept[1], None, ()), papers, rule_judge(kept[0]))
        return "".join(["+" if flag else "-" for flag in flags])

    def test_drawn_questions(self):
        told = {}
        for seed in range(12):
            dice = dice_of(1750 + seed)
            desk, things = Desk(), {}
            for kind in KINDS:
                for name in ("a", "b"):
                    things[(kind, name)] = drawn_text(dice, kind)
                    desk.tell(kind + " " + name + " " + things[(kind, name)])
            before = look(desk)
            for word, kinds in [("shown", ("book", "web")), ("holds", ("saying", "web")), ("knows", ("saying", "web")),
                                ("kinds", ("saying", "signs")), ("proves", ("book", "saying")), ("says", ("rule", "web", "papers"))]:
                for _ in range(4):
                    words = [word]
                    for kind in kinds:
                        thing = dice.choice("ab") if kind in KINDS else dice.choice("123")
                        if kind == "papers":
                            many = read_web(things[words[2]].replace("|", "\n")).many
                            width = int(things[words[1]].split(" ")[0]) or 1
                            thing = ";".join([",".join([str(dice.randrange(3)) for _ in range(width + (dice.randrange(9) == 0))])
                                              for _ in range(many)])
                        words.append((kind, thing))
                    line = " ".join([word] + [thing for _, thing in words[1:]])
                    try:
                        due = self.answer(things, words)
                    except NearError as error:
                        with self.assertRaises(type(error)) as caught:
                            desk.tell(line)
                        self.assertEqual(vars(caught.exception), vars(error))
                        continue
                    self.assertEqual(desk.tell(line), due)
                    self.assertEqual(desk.tell(line), due)
                    told.setdefault(word, set()).add(due)
            self.assertEqual(look(desk), before)
        for word in ("shown", "holds", "knows"):
            self.assertEqual(told[word], {"yes", "no"})
        self.assertGreater(min(len(told["kinds"]), len(told["proves"]), len(told["says"])), 2)

    def test_shown_holds_knows(self):
        desk = filled()
        desk.tell("web ring web 1 0 0|tie 0 1 0|tie 0 2 0|tie 1 2 0|")
        desk.tell("web zeros web 0 0|tie 0 1 5|")
        for line, told in [("shown twos row", "yes"), ("shown twos ring", "no"), ("holds one row", "yes"), ("holds one zeros", "no"),
                           ("holds one ring", "yes"), ("knows one row", "yes"), ("knows one zeros", "no"), ("kinds one 1", "1"),
                           ("kinds one 2", "2"), ("kinds one 3", "2")]:
            self.assertEqual(desk.tell(line), told)

    def test_proves(self):
        desk = filled()
        desk.tell("saying sides someset s every x every y either not tie x y either both in x s not in y s both in y s not in x s")
        self.assertEqual(desk.tell("proves twos sides"), "yes")
        # The least tree that all its marks show, and that the saying does not hold of.
        self.assertEqual(desk.tell("proves twos one"), "fooled web 0|")
        desk.tell("book none book 2 1|")
        self.assertEqual(desk.tell("proves none one"), "unshown web 1|")
        desk.tell("saying edge some x some y both tie x y both sign x 1 sign y 1")
        self.assertEqual(desk.tell("proves none edge"), "unshown web 1 1|tie 0 1 0|")
        for line in ["proves none edge", "proves twos one"]:
            word, text = desk.tell(line).split(" ", 1)
            self.assertIn(word, ("fooled", "unshown"))
            self.assertEqual(desk.tell("web found " + text), "ok")
            self.assertEqual(desk.tell("source web found"), text)

    def test_says(self):
        desk = filled()
        for papers, flags in [("0;1;0", "+++"), ("0;0;0", "---"), ("1;0;0", "+--"), ("0,0;1;0", "--+"), ("7;8;7", "+++"), ("0;1;1,1", "+--")]:
            self.assertEqual(desk.tell("says sides row " + papers), flags)
        desk.tell("rule names 1 both same name number 0 each both same itsname number 0 same picked number 0")
        self.assertEqual(desk.tell("says names row 5;6;7"), "+++")
        desk.tell("rule empty 0 yes")
        self.assertEqual(desk.tell("says empty row 0;0;0"), "---")

    def test_elder_things_answer_again(self):
        desk = filled()
        self.assertEqual(desk.tell("shown twos row"), "yes")
        desk.tell("book twos book 1 1|")
        self.assertEqual(desk.tell("shown twos row"), "no")
        desk.tell("undo")
        self.assertEqual(desk.tell("shown twos row"), "yes")
        desk.tell("drop web row")
        with self.assertRaises(NoThing) as caught:
            desk.tell("shown twos row")
        self.assertEqual(caught.exception.name, "row")
        desk.tell("undo")
        self.assertEqual(desk.tell("shown twos row"), "yes")

    def test_texts_of_claims(self):
        desk = Desk()
        for word in ("leader", "sides", "least", "pairing"):
            text = rule_text(claim_rule((word,)))
            self.assertEqual(desk.tell("rule " + word + " " + text), "ok")
            self.assertEqual(desk.tell("source rule " + word), text)
        self.assertEqual(desk.tell("names rule"), "leader least pairing sides")
        saying = read_saying("every x some y either tie x y same x y")
        self.assertEqual(desk.tell("saying all " + saying_text(saying)), "ok")
        desk.tell("web one " + one_line(web_text(Web((0,), ()))))
        self.assertEqual(desk.tell("holds all one"), "yes")


if __name__ == "__main__":
    unittest.main()
