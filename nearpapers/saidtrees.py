"""Sayings led into knowers, and books into sayings."""

from nearpapers.errors import NoNumber, TooMany
from nearpapers.knowing import knower_from
from nearpapers.lookforms import form_of_book
from nearpapers.plain import is_between
from nearpapers.saidforms import free_names, listed, told_by
from nearpapers.saidkinds import AtomLooks, atom_kinds, joined_kinds, marks_for, turned_kinds
from nearpapers.saidsets import MOST_UNLIKE, told_kinds
from nearpapers.sayings import big_saying

MOST_SIGNS = 3
MOST_NAMES = 4


class Bits:
    """One bit for each name of houses and of sets that stands in some forms."""

    def __init__(self, frees):
        pairs = sorted({pair for row in frees for pair in row})
        self.bits = {pair: 1 << at for at, pair in enumerate(pairs)}

    def bit(self, pair):
        """The bit of a name, 0 for one that stands nowhere."""
        return self.bits.get(pair, 0)

    def bits_of(self, pairs):
        """The bits of some names."""
        return [self.bits[pair] for pair in pairs]

    def full_of(self, pairs):
        """The bits of the names of houses among some names together."""
        return sum([self.bits[pair] for pair in pairs if pair[1] == "h"])

    def looks_for(self, row):
        """When the atom of a row is true."""
        word = row[0]
        if word == "yes":
            return AtomLooks(word, 0, 0, 0)
        x = self.bits[(row[1], "h")]
        if word == "sign":
            return AtomLooks(word, x, 0, row[2])
        return AtomLooks(word, x, self.bits[(row[2], "s" if word == "in" else "h")], 0)


def kinds_of_row(row, made, marks, full, bits):
    """What branches are for the form of a row, made telling it of the forms within."""
    word = row[0]
    if word == "not":
        return turned_kinds(made[row[1]])
    if word == "both" or word == "either":
        return joined_kinds(made[row[1]], made[row[2]], marks, full, 1 if word == "both" else 0)
    teller = told_by(row)
    if teller is None:
        return atom_kinds(bits.looks_for(row), marks, full)
    inner = made[row[2]]
    own = bits.bit(teller)
    if own & inner.bits == 0:
        # The name does not stand in the form within; each web has some house, and some set.
        return inner
    return told_kinds(inner, marks, full, own, word in ("every", "everyset"))


def knower_for(saying, signs):
    """A least knower of just the slim trees with signs below signs of which a saying is true."""
    if not is_between(1, MOST_SIGNS, signs):
        raise NoNumber()
    rows = listed(saying.form)
    frees = free_names(rows)
    if max([len(pairs) for pairs in frees]) > MOST_NAMES:
        raise TooMany(MOST_NAMES)
    bits = Bits(frees)
    made = []
    for row, pairs in zip(rows, frees):
        said = kinds_of_row(row, made, marks_for(signs, bits.bits_of(pairs)), bits.full_of(pairs), bits)
        if len(said.classes()[0]) > MOST_UNLIKE:
            raise TooMany(MOST_UNLIKE)
        made.append(said)
    return knower_from(made[-1].climber)


def saying_of(book):
    """A saying that is true of a slim web with signs below a book's exactly if the book shows it."""
    return big_saying(form_of_book(book))
