"""Which strings are lines for the desk, and what the words of a line stand for."""

from nearpapers.figures import is_figures

MOST_LETTERS = 8
KINDS = ("web", "book", "saying", "rule")

# For each word of the other lines what stands behind it: a kind is the name of a thing of this kind.
LINES = {
    "drop": ("kind", "name"), "names": ("kind",), "source": ("kind", "name"), "undo": (), "shown": ("book", "web"),
    "holds": ("saying", "web"), "knows": ("saying", "web"), "kinds": ("saying", "figure"),
    "proves": ("book", "saying"), "says": ("rule", "web", "papers"),
}


def is_name(word):
    """Whether a word is the name of a thing."""
    return 1 <= len(word) <= MOST_LETTERS and all(["a" <= letter <= "z" for letter in word])


def is_word(part, word):
    """Whether a word can stand for a part of a line."""
    if part == "kind":
        return word in KINDS
    if part == "figure":
        return is_figures(1, word)
    return word != "" if part == "papers" else is_name(word)


def is_asking(words):
    """Whether words are those of a line that keeps no new thing."""
    if words[0] not in LINES or len(words) != len(LINES[words[0]]) + 1:
        return False
    return all([is_word(part, word) for part, word in zip(LINES[words[0]], words[1:])])


def is_keeping(words):
    """Whether words are those of a line that keeps a thing: a kind, a name, and a text that may hold blanks."""
    if words[0] not in KINDS or len(words) < 3 or not is_name(words[1]):
        return False
    return len(words) > 3 or words[2] != ""


def line_words(line):
    """The words of a line for the desk, a text being one word; None if it is no such line."""
    if not isinstance(line, str) or "\n" in line:
        return None
    words = line.split(" ")
    if is_keeping(words):
        return [words[0], words[1], " ".join(words[2:])]
    return words if is_asking(words) else None


def named_things(words):
    """The list of the pairs (kind, name) of the things that must be kept for the words of a line of no kind."""
    if words[0] in ("drop", "source"):
        return [(words[1], words[2])]
    return [(part, word) for part, word in zip(LINES[words[0]], words[1:]) if part in KINDS]
