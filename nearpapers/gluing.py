"""Rings of four houses, glued to rings of eight that fool the judges of too few marks."""

from nearpapers.covers import ring_world
from nearpapers.errors import NoNumber
from nearpapers.plain import is_below, is_between
from nearpapers.tellings import is_row_of, is_shown, is_triple, is_unshown, need_marks, places_of
from nearpapers.worlds import World, all_yes

PLACES = 200000
MOST_MARKS = 2
MOST_ENOUGH = 100
MOST_NAMES = 1000000000000
RING_SIGNS = (1, 0, 0, 0)


def ring_names(i, j):
    """The names of the houses of a ring of four."""
    return (4 * i, 4 * i + 1, 4 * j + 2, 4 * j + 3)


def four_ring(i, j):
    """The world of four houses round that two numbers name."""
    if not is_below(PLACES, i) or not is_below(PLACES, j):
        raise NoNumber()
    return World(ring_world(RING_SIGNS).web, ring_names(i, j), ())


def glued(a, b, c, d):
    """The world of eight houses round, glued of two rings of four; two of its houses have sign 1."""
    if not all([is_below(PLACES, one) for one in (a, b, c, d)]) or c == a or d == b:
        raise NoNumber()
    return World(ring_world(RING_SIGNS * 2).web, ring_names(a, b) + ring_names(c, d), ())


def enough(many):
    """For so many marks, how many numbers there must be that every judge is fooled by some of them."""
    if not is_between(1, MOST_ENOUGH, many):
        raise NoNumber()
    return (many ** 4 + 1) ** 2


def shortest(names):
    """The least number of marks by which judges of rings with names below this one need not be fooled."""
    if not is_between(1, MOST_NAMES, names):
        raise NoNumber()
    many = 1
    while 4 * enough(many) <= names:
        many += 1
    return many


def bits_shared(one, other):
    """The places, ascending, of the bits that two numbers share."""
    both = one & other
    return [at for at in range(both.bit_length()) if (both >> at) & 1 == 1]


def square_in(lots, lot):
    """The triple (a, (b, d), row) of an earlier lot that has a row at two places where the last lot has it, or None."""
    for a, earlier in enumerate(lots):
        for row, bits in lot.items():
            shared = bits_shared(bits, earlier.get(row, 0))
            if len(shared) > 1:
                return (a, (shared[0], shared[1]), row)
    return None


def fooled(judge, maker, marks):
    """A triple of a ring of four that is not shown by the marks, or of a ring of eight that is, though it is false."""
    need_marks(MOST_MARKS, marks)
    many = enough(len(marks))
    lots = []
    # Of so many places some two times two have one row of marks, so this ends within the table.
    for i in range(many):
        lot = {}
        for j in range(many):
            world = four_ring(i, j)
            told = maker(world)
            if not is_row_of(marks, 4, told) or not all_yes(world, told, judge):
                return ("unshown", world, told)
            row = places_of(marks, told)
            lot[row] = lot.get(row, 0) | 1 << j
        square = square_in(lots, lot)
        if square is not None:
            a, (b, d), row = square
            return ("fooled", glued(a, b, i, d), tuple([marks[at] for at in row * 2]))
        lots.append(lot)


def named_by(world, many):
    """The numbers below 200000 that name the pairs of houses of a world of so many, None if none can."""
    if not isinstance(world, World) or world.names is None or len(world.names) != many:
        return None
    told = [name // 4 for name in world.names[::2]]
    return told if max(told) < PLACES else None


def is_four_ring(thing):
    """Whether a thing is a ring of four that two numbers name."""
    told = named_by(thing, 4)
    return told is not None and thing == four_ring(told[0], told[1])


def is_glued(thing):
    """Whether a thing is a ring of eight that is glued of two rings."""
    told = named_by(thing, 8)
    if told is None or told[0] == told[2] or told[1] == told[3]:
        return False
    return thing == glued(told[0], told[1], told[2], told[3])


def is_fooling(judge, maker, marks, thing):
    """Whether a thing is a triple that fooled may tell."""
    need_marks(MOST_MARKS, marks)
    if not is_triple(thing):
        return False
    word, world, told = thing
    if word == "unshown":
        return is_four_ring(world) and is_unshown(judge, maker, marks, world, told)
    return word == "fooled" and is_glued(world) and is_shown(judge, marks, world, told)
