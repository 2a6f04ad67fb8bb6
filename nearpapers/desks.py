"""The desk: webs, books, sayings and rules kept under names, and asked of, by lines."""

from nearpapers.deskanswers import answer, read_thing
from nearpapers.desklines import KINDS, line_words, named_things
from nearpapers.errors import NoLine, NoThing, NothingDone


class Desk:
    """What is kept: for each pair (kind, name) the pair (thing, text); and what it takes to take lines back."""

    def __init__(self):
        self.kept = {}
        self.done = []

    def tell(self, line):
        """Does a line, and tells the answer."""
        words = line_words(line)
        if words is None:
            raise NoLine()
        if words[0] in KINDS:
            self.put((words[0], words[1]), (read_thing(words[0], words[2]), words[2]))
            return "ok"
        pairs = named_things(words)
        for pair in pairs:
            if pair not in self.kept:
                raise NoThing(pair[1])
        if words[0] in ("drop", "names", "source", "undo"):
            return self.managed(words)
        return answer(words, [self.kept[pair][0] for pair in pairs])

    def undoable(self):
        """How many lines can be taken back."""
        return len(self.done)

    def put(self, pair, entry):
        """Keeps an entry, or none where it is None, and what was there before."""
        self.done.append((pair, self.kept.get(pair)))
        self.set_entry(pair, entry)

    def set_entry(self, pair, entry):
        """Keeps an entry, or none where it is None."""
        if entry is None:
            del self.kept[pair]
        else:
            self.kept[pair] = entry

    def managed(self, words):
        """The answer to a line about what is kept."""
        if words[0] == "names":
            return " ".join(sorted([name for kind, name in self.kept if kind == words[1]])) or "none"
        if words[0] == "source":
            return self.kept[(words[1], words[2])][1]
        if words[0] == "drop":
            self.put((words[1], words[2]), None)
        else:
            self.take_back()
        return "ok"

    def take_back(self):
        """Takes the last line back that kept or dropped something."""
        if not self.done:
            raise NothingDone()
        pair, elder = self.done.pop()
        self.set_entry(pair, elder)
