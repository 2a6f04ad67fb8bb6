"""What the desk answers where it is asked of things that are kept."""

from nearpapers.errors import NoPapers
from nearpapers.exchange import shows
from nearpapers.figures import are_numbers, numbers_in
from nearpapers.forms import tree_of
from nearpapers.knowers import knows
from nearpapers.marking import marked
from nearpapers.rules import rule_judge
from nearpapers.saidtrees import knower_for
from nearpapers.sayings import holds
from nearpapers.sayingtexts import read_rule, read_saying
from nearpapers.texts import read_book, read_web, web_text
from nearpapers.worlds import World, says

KNOWN_SIGNS = 3


def read_thing(kind, text):
    """The thing of a kind that a text on one line tells."""
    lines = text.replace("|", "\n")
    if kind == "web":
        return read_web(lines)
    if kind == "book":
        return read_book(lines)
    return read_saying(lines) if kind == "saying" else read_rule(lines)


def yes_or_no(flag):
    """A flag as a word."""
    return "yes" if flag else "no"


def proof(book, saying):
    """Whether a book shows just what a saying holds of, or the tree that parts them."""
    parted = shows(book, knower_for(saying, book.signs))
    if parted is None:
        return "yes"
    return parted[0] + " " + web_text(tree_of(parted[1])).replace("\n", "|")


def read_papers(word):
    """The papers, as many as may be, that a word tells."""
    rows = [part.split(",") for part in word.split(";")]
    if not all([are_numbers(row) for row in rows]):
        raise NoPapers()
    return tuple([numbers_in(row) for row in rows])


def signs_of_flags(rule, web, word):
    """What the houses of a web say by a rule to the papers that a word tells."""
    flags = says(World(web, None, ()), read_papers(word), rule_judge(rule))
    return "".join(["+" if flag else "-" for flag in flags])


def answer(words, things):
    """The answer to the words of a line that asks of kept things, which are told in the order of their names."""
    word = words[0]
    if word == "shown":
        return yes_or_no(marked(things[0], things[1]) is not None)
    if word == "holds":
        return yes_or_no(holds(things[0], things[1]))
    if word == "knows":
        return yes_or_no(knows(knower_for(things[0], KNOWN_SIGNS), things[1]))
    if word == "kinds":
        return str(knower_for(things[0], int(words[2])).kinds)
    if word == "proves":
        return proof(things[0], things[1])
    return signs_of_flags(things[0], things[1], words[3])
