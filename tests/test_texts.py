"""Point 16.1: webs and books as texts."""

import re
import unittest

from nearpapers.books import Book
from nearpapers.covers import cover, laid_over
from nearpapers.errors import BadBook, BadText, BadWeb
from nearpapers.exchange import book_of
from nearpapers.texts import book_text, read_book, read_web, web_text
from nearpapers.webs import Web
from tests.helper import (E, all_looks, colours, dice_of, odd_things, random_book, random_web, ring_web, row_web,
                          some_knowers)

NUMBER = "(0|[1-9][0-9]{0,8})"
LINES = {
    "web": ("web( %s)+" % NUMBER, "tie %s %s %s" % (NUMBER, NUMBER, NUMBER)),
    "book": ("book %s %s" % (NUMBER, NUMBER), "look %s %s( %s:%s)*" % (NUMBER, NUMBER, NUMBER, NUMBER)),
}


def plain_wrong_line(kind, text):
    """The line of BadText, None if all lines are well; each way in which one can be wrong by itself."""
    if not isinstance(text, str):
        return 0
    wrong = []
    lines = []
    left = text
    while "\n" in left:
        line, left = left.split("\n", 1)
        lines.append(line)
    for at, line in enumerate(lines):
        if re.fullmatch(LINES[kind][0 if at == 0 else 1], line) is None:
            wrong.append(at + 1)
    if left:
        wrong.append(len(lines) + 1)
    if text == "":
        wrong.append(1)
    return min(wrong) if wrong else None


def plain_web(text):
    """The signs and ties of a text."""
    rows = [[int(word) for word in line.split()[1:]] for line in text.splitlines()]
    return tuple(rows[0]), tuple(map(tuple, rows[1:]))


def plain_book(text):
    lines = [line.split() for line in text.splitlines()]
    looks = tuple([(int(words[1]), int(words[2]), tuple([tuple(map(int, word.split(":"))) for word in words[3:]]))
                   for words in lines[1:]])
    return int(lines[0][1]), int(lines[0][2]), looks


def what_comes(call, *things):
    """What a call returns or raises, comparable."""
    try:
        return call(*things)
    except (BadText, BadWeb, BadBook) as error:
        return (type(error).__name__, vars(error))


def spoilt(dice, text):
    """A text with some sign, word or line otherwise."""
    signs = "0123456789 \n:-+_|abekloitw"
    way = dice.randrange(9)
    at = dice.randrange(len(text) + 1)
    if way < 3:
        return text[:at] + dice.choice(signs) + text[at + 1:]
    if way < 5:
        return text[:at] + dice.choice(signs) + text[at:]
    if way == 5:
        return text[:at] + text[at + 1:]
    lines = text.split("\n")
    one, other = dice.randrange(len(lines)), dice.randrange(len(lines))
    if way == 6:
        lines[one], lines[other] = lines[other], lines[one]
        return "\n".join(lines)
    if way == 7:
        return "\n".join(lines[:one] + [lines[other]] + lines[one:])
    words = re.split("( |\n)", text)
    at = dice.randrange(len(words))
    words[at] = dice.choice(["", "0", "7", "00", "01", "1000000000", "999999999", "tie", "web", "look", "book", "1:0", "0:",
                             "+1", "-0", "1_0", "0:0:0", "2:2"])
    return "".join(words)


class WebTextTest(unittest.TestCase):
    def test_texts(self):
        self.assertEqual(web_text(Web((3,), ())), "web 3\n")
        self.assertEqual(web_text(Web((0, 1), ((0, 1, 999),))), "web 0 1\ntie 0 1 999\n")
        big = web_text(ring_web((0, 1) * 8))
        self.assertEqual(big.split("\n")[1:3], ["tie 0 1 0", "tie 0 15 0"])
        self.assertIn("\ntie 10 11 0\n", big)

    def test_there_and_back(self):
        dice = dice_of(161)
        for _ in range(200):
            web = random_web(dice, dice.randrange(1, 17), more=8, weights=1000)
            text = web_text(web)
            self.assertIsNone(plain_wrong_line("web", text))
            self.assertEqual(read_web(text), web)
            self.assertEqual(web_text(read_web(text)), text)

    def test_of_great_webs(self):
        web, _ = cover(ring_web((0, 1, 2)), 4, ((1, 2, 3, 0), (0, 1, 2, 3), (0, 1, 2, 3)))
        self.assertEqual(read_web(web_text(web)), web)
        web, _ = cover(web, 4, ((1, 2, 3, 0),) + ((0, 1, 2, 3),) * 11)
        self.assertEqual(web.many, 48)
        text = web_text(web)
        self.assertEqual(plain_web(text), (web.signs, web.ties))
        # A web is bounded where it is constructed.
        with self.assertRaises(BadWeb) as caught:
            read_web(text)
        self.assertEqual(caught.exception.part, "signs")

    def line(self, number, text):
        with self.assertRaises(BadText) as caught:
            read_web(text)
        self.assertEqual(caught.exception.line, number)

    def test_bad_text(self):
        for text in [None, 0, b"web 0\n", ["web 0\n"], ("web 0\n",)] + [thing for thing in odd_things()
                                                                         if not isinstance(thing, str)]:
            self.line(0, text)
        for text in ["", "\n", " ", "web", "web\n", "web \n", "web 0", "web  0\n", "web 0 \n", " web 0\n", "Web 0\n", "web 00\n",
                     "web 01\n", "web +1\n", "web -0\n", "web 1_0\n", "web 0 1000000000\n", "web a\n", "web 0,1\n", "tie 0 1 0\n",
                     "webs 0\n", "web0\n", "\nweb 0\n", "web 0\t1\n", "book 1 1\n", "web 0  1\n", "web 0\r\n", "x\nweb 0\n"]:
            self.line(1, text)
        for text in ["web 0 1\ntie 0 1\n", "web 0 1\ntie 0 1 0 0\n", "web 0 1\nweb 0 1\n", "web 0 1\n\ntie 0 1 0\n", "web 0\n\n",
                     "web 0 1\ntie 0 1 0", "web 0\n ", "web 0\nx", "web 0 1\ntie 0 1 00\n", "web 0 1\ntie 0 1 1000000000\n",
                     "web 0 1\ntie  0 1 0\n", "web 0 1\ntie 0 1 0 \n", "web 0 1\n tie 0 1 0\n", "web 0 1\ntie 0 -1 0\nx\n",
                     "web 0 1\ntie\n", "web 0 1\nTIE 0 1 0\n"]:
            self.line(2, text)
        self.line(3, "web 9 9\ntie 0 1 0\ntie 0 1 0")
        self.line(4, "web 9 9\ntie 0 1 0\ntie 0 1 0\n\n")
        self.line(102, "web 0\n" + "tie 0 0 0\n" * 100 + "tie")

    def test_bad_web(self):
        for part, text in [("signs", "web 4\n"), ("signs", "web 0 999999999\n"), ("signs", "web" + " 0" * 17 + "\n"),
                           (0, "web 0 0\ntie 0 0 0\n"), (0, "web 0 0\ntie 0 1 1000\n"), (0, "web 0 0\ntie 0 1 999999999\n"),
                           (1, "web 0 0\ntie 0 1 0\ntie 0 1 1\n"), ("joined", "web 0 0\n"), (0, "web 0\ntie 0 1 0\n"),
                           (1, "web 0 0 0\ntie 0 2 0\ntie 0 1 0\n"), ("joined", "web 0 0 0\ntie 0 1 0\n"),
                           ("signs", "web 4\ntie 9 9 9\n")]:
            with self.assertRaises(BadWeb) as caught:
                read_web(text)
            self.assertEqual(caught.exception.part, part)

    def test_spoilt_texts(self):
        dice = dice_of(162)
        lines, webs = {}, 0
        for _ in range(6000):
            text = web_text(random_web(dice, dice.randrange(1, 6), more=2, weights=dice.choice([3, 1000])))
            for _ in range(dice.randrange(1, 3)):
                text = spoilt(dice, text)
            due = plain_wrong_line("web", text)
            told = what_comes(read_web, text)
            if due is None:
                self.assertEqual(told, what_comes(Web, *plain_web(text)))
                webs += 1
            else:
                self.assertEqual(told, ("BadText", {"line": due}), text)
                lines[due] = lines.get(due, 0) + 1
        self.assertGreater(webs, 500)
        self.assertGreater(min(lines[1], lines[2], lines[3]), 200)

    def test_long_texts(self):
        text = "web" + " 0" * 9990 + "\n"
        with self.assertRaises(BadWeb):
            read_web(text)
        with self.assertRaises(BadText) as caught:
            read_web("web 0\n" + "tie 1 2 3\n" * 1900 + "\n")
        self.assertEqual(caught.exception.line, 1902)


class BookTextTest(unittest.TestCase):
    def test_texts(self):
        book = Book(2, 12, ((0, 11, ()), (1, 3, ((0, 10), (0, 11), (1, 0)))))
        self.assertEqual(book_text(book), "book 2 12\nlook 0 11\nlook 1 3 0:10 0:11 1:0\n")
        self.assertEqual(book_text(Book(1, 1, ())), "book 1 1\n")

    def test_there_and_back(self):
        dice = dice_of(163)
        books = [random_book(dice, dice.randrange(1, 4), dice.randrange(1, 5), dice.choice([1, 5, 40])) for _ in range(60)]
        books += [book_of(E), colours(1, 2), colours(2, 3)] + [book_of(knower) for knower in some_knowers(2)
                                                               if knower.kinds <= 4]
        for book in books:
            text = book_text(book)
            self.assertIsNone(plain_wrong_line("book", text))
            self.assertEqual(read_book(text), book)
            self.assertEqual(book_text(read_book(text)), text)

    def test_a_great_book(self):
        book = Book(3, 6, tuple(sorted(all_looks(3, 6))))
        self.assertGreater(len(book_text(book)), 20000)
        self.assertEqual(read_book(book_text(book)), book)

    def line(self, number, text):
        with self.assertRaises(BadText) as caught:
            read_book(text)
        self.assertEqual(caught.exception.line, number)

    def test_bad_text(self):
        for text in [None, 0, b"book 1 1\n", ["book 1 1\n"]] + [thing for thing in odd_things() if not isinstance(thing, str)]:
            self.line(0, text)
        for text in ["", "\n", "book 1 1", "book 1\n", "book 1 1 1\n", "book\n", "book 01 1\n", "book 1  1\n", "book 1 1 \n",
                     "look 0 0\n", "web 0\n", "book 1 1000000000\n", "book a b\n", "Book 1 1\n", "book 1:1\n"]:
            self.line(1, text)
        for line in ["look", "look 0", "look 0 0:0", "look 0 0 0", "look 0 0 0:", "look 0 0 :0", "look 0 0 0:0:0", "look 0 0 0:00",
                     "look 0 0 0:1000000000", "look 0 0  0:0", "look 0 0 0:0 ", "look 00 0", "look 0 -1", "book 1 1", "", "tie 0 1 0",
                     "look 0 0 0: 0", "look 0 0 0;0", "look 0 0 :", "look 0 0 0:0,0:0"]:
            self.line(2, "book 1 1\n" + line + "\n")
            self.line(2, "book 9 99\n" + line + "\n\nx")
        self.line(3, "book 1 1\nlook 0 0\nlook 0 0")

    def test_bad_book(self):
        for part, text in [("signs", "book 0 1\n"), ("signs", "book 4 0\n"), ("marks", "book 1 0\n"), ("marks", "book 3 13\n"),
                           (0, "book 1 1\nlook 1 0\n"), (0, "book 1 1\nlook 0 1\n"), (0, "book 1 1\nlook 0 0 0:1\n"),
                           (0, "book 1 1\nlook 0 0 0:0 0:0 0:0 0:0\n"), (0, "book 1 1\nlook 0 0" + " 0:0" * 900 + "\n"),
                           (0, "book 1 2\nlook 0 0 0:1 0:0\n"), (1, "book 1 1\nlook 0 0\nlook 0 0\n"),
                           (1, "book 1 2\nlook 0 1\nlook 0 0\n"), ("signs", "book 999999999 999999999\n"),
                           (2, "book 1 2\nlook 0 0\nlook 0 1\nlook 0 999999999\n")]:
            with self.assertRaises(BadBook) as caught:
                read_book(text)
            self.assertEqual(caught.exception.part, part)

    def test_spoilt_texts(self):
        dice = dice_of(164)
        lines, books = {}, 0
        for _ in range(5000):
            text = book_text(random_book(dice, dice.randrange(1, 3), dice.randrange(1, 3), 8))
            for _ in range(dice.randrange(1, 3)):
                text = spoilt(dice, text)
            due = plain_wrong_line("book", text)
            told = what_comes(read_book, text)
            if due is None:
                self.assertEqual(told, what_comes(Book, *plain_book(text)))
                books += 1
            else:
                self.assertEqual(told, ("BadText", {"line": due}), text)
                lines[due] = lines.get(due, 0) + 1
        self.assertGreater(books, 300)
        self.assertGreater(min(lines[1], lines[2], lines[3]), 150)

    def test_rings_of_great_worlds(self):
        world, _ = laid_over(lambda seen: True, (0, 1, 2, 3), (0,) * 4, 4)
        self.assertEqual(read_web(web_text(world.web)), world.web)
        self.assertEqual(web_text(row_web(2, (1,), 5)), "web 1 1\ntie 0 1 5\n")


if __name__ == "__main__":
    unittest.main()
