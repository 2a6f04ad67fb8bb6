"""Webs and books as texts."""

from nearpapers.books import Book
from nearpapers.errors import BadText
from nearpapers.figures import are_numbers, joined_numbers, numbers_in
from nearpapers.webs import Web


def web_text(web):
    """The text of a web."""
    lines = ["web " + joined_numbers(web.signs)]
    for tie in web.ties:
        lines.append("tie " + joined_numbers(tie))
    return "".join([line + "\n" for line in lines])


def book_text(book):
    """The text of a book."""
    lines = ["book " + joined_numbers((book.signs, book.marks))]
    for sign, its, near in book.looks:
        pairs = [str(other) + ":" + str(paper) for other, paper in near]
        lines.append(" ".join(["look", str(sign), str(its), *pairs]))
    return "".join([line + "\n" for line in lines])


def is_web_line(words):
    """Whether words are those of a web's first line."""
    return words[0] == "web" and len(words) > 1 and are_numbers(words[1:])


def is_tie_line(words):
    """Whether words are those of the line of a tie."""
    return words[0] == "tie" and len(words) == 4 and are_numbers(words[1:])


def is_book_line(words):
    """Whether words are those of a book's first line."""
    return words[0] == "book" and len(words) == 3 and are_numbers(words[1:])


def is_pair_word(word):
    """Whether a word tells a sign and a mark."""
    parts = word.split(":")
    return len(parts) == 2 and are_numbers(parts)


def is_look_line(words):
    """Whether words are those of the line of a look."""
    if words[0] != "look" or len(words) < 3 or not are_numbers(words[1:3]):
        return False
    return all([is_pair_word(word) for word in words[3:]])


def read_lines(text, is_first, is_later):
    """The words of each line of a text."""
    if not isinstance(text, str):
        raise BadText(0)
    *lines, left = text.split("\n")
    rows = [line.split(" ") for line in lines]
    for at, words in enumerate(rows):
        good = is_first(words) if at == 0 else is_later(words)
        if not good:
            raise BadText(at + 1)
    if left != "" or not rows:
        raise BadText(len(rows) + 1)
    return rows


def read_web(text):
    """The web that a text tells."""
    rows = read_lines(text, is_web_line, is_tie_line)
    return Web(numbers_in(rows[0][1:]), tuple([numbers_in(words[1:]) for words in rows[1:]]))


def look_of(words):
    """The look that the words of a line tell."""
    sign, its = numbers_in(words[1:3])
    return (sign, its, tuple([numbers_in(word.split(":")) for word in words[3:]]))


def read_book(text):
    """The book that a text tells."""
    rows = read_lines(text, is_book_line, is_look_line)
    signs, marks = numbers_in(rows[0][1:])
    return Book(signs, marks, tuple([look_of(words) for words in rows[1:]]))
