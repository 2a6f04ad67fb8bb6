"""Forms as rows of words: each form's own word first, then its parts as they stand in it.

A shape tells the parts behind a word, one letter each. shape_at(part, word) is the shape of what a word begins where
this part is due: "" where nothing stands behind it, None where the word cannot stand there.
"""

from nearpapers.errors import BadWord
from nearpapers.figures import MOST_FIGURES, is_figures
from nearpapers.ruleforms import TERMS, TESTS
from nearpapers.saidforms import SHAPES, is_name


def saying_shape(part, word):
    """The shape of what a word begins in a saying."""
    if part == "f":
        return SHAPES.get(word)
    good = is_figures(1, word) if part == "k" else is_name(word)
    return "" if good else None


def rule_shape(part, word):
    """The shape of what a word begins in a rule."""
    if part == "e":
        return TESTS.get(word)
    if part == "t":
        return TERMS.get(word)
    return "" if is_figures(MOST_FIGURES, word) else None


def is_form_part(part):
    """Whether forms, terms or tests stand as this part; else names or numbers do."""
    return part in ("f", "t", "e")


def words_of(pairs, shape_at):
    """The words of things, told as pairs (part, thing)."""
    told = []
    waiting = pairs[::-1]
    while waiting:
        part, thing = waiting.pop()
        if is_form_part(part):
            told.append(thing[0])
            behind = list(zip(shape_at(part, thing[0]), thing[1:]))
            waiting.extend(behind[::-1])
        else:
            told.append(str(thing))
    return told


def read_words(words, parts, shape_at):
    """For each word the pair (part, shape) of what it begins where such parts are due, one behind the other."""
    due = list(parts[::-1])
    told = []
    for at, word in enumerate(words):
        part = due.pop() if due else ""
        shape = shape_at(part, word) if part != "" else None
        if shape is None:
            raise BadWord(at)
        told.append((part, shape))
        due.extend(list(shape[::-1]))
    if due:
        raise BadWord(len(words))
    return told


def plain_value(part, word):
    """The name or the number that a word tells."""
    return word if part in ("h", "s", "H", "S") else int(word)


def built(words, pairs):
    """The list of the things that words tell, given the pair (part, shape) of each."""
    # From the last word on, so that the parts of a form stand ready when its own word is met.
    ready = []
    for word, (part, shape) in list(zip(words, pairs))[::-1]:
        if is_form_part(part):
            behind = [ready.pop() for _ in shape]
            ready.append((word, *behind))
        else:
            ready.append(plain_value(part, word))
    return ready[::-1]


def read_things(text, parts, shape_at):
    """The list of the things that a text tells where such parts are due."""
    if not isinstance(text, str):
        raise BadWord(-1)
    words = text.split(" ")
    return built(words, read_words(words, parts, shape_at))
