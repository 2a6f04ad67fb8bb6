"""Rows of houses with two halves: whether both are alike can be shown by long papers, or by short ones with dice."""

from math import gcd

from nearpapers.errors import NoBits, NoNumber, NoPrime
from nearpapers.plain import is_below, is_between, is_number, is_row
from nearpapers.tellings import is_row_of, is_shown, is_triple, is_unshown, need_marks, places_of
from nearpapers.webs import big_web
from nearpapers.worlds import World, all_yes

MOST_BITS = 8
MOST_MARKS = 4
PRIMES = (2, 3, 5, 7, 11, 13, 17, 19, 23)


def is_bits(thing):
    """Whether a thing is bits."""
    return is_row(2, thing) and 1 <= len(thing) <= MOST_BITS


def need_bits(bits, other):
    """Nothing, if both are bits, as many of one as of the other."""
    if not is_bits(bits) or not is_bits(other) or len(bits) != len(other):
        raise NoBits()


def need_prime(prime, point):
    """Nothing, if there is such a prime, and such a point of it."""
    need_only_prime(prime)
    if not is_below(prime, point):
        raise NoNumber()


def need_only_prime(prime):
    """Nothing, if a thing is one of the primes."""
    if not is_number(prime) or prime not in PRIMES:
        raise NoPrime()


def halves(bits, other):
    """The world of houses in a row whose signs tell two rows of bits."""
    need_bits(bits, other)
    many = 2 * len(bits)
    signs = (*bits, *[bit + 2 for bit in other])
    ties = tuple([(house, house + 1, 0) for house in range(many - 1)])
    return World(big_web(signs, ties), tuple(range(many)), ())


def need_half(marks, half):
    """Nothing, if marks are marks, and half is a number of bits that is too great for them."""
    need_marks(MOST_MARKS, marks)
    if not is_between(0, MOST_BITS, half) or 1 << half <= 4 * len(marks) ** 2:
        raise NoNumber()


def crossed(judge, maker, marks, half):
    """A triple of alike halves that are not shown by the marks, or of unlike ones that are."""
    need_half(marks, half)
    met = {}
    # There are more rows of bits than signs and marks in the middle, so two have the same ones there.
    for number in range(1 << half):
        bits = tuple([(number >> at) & 1 for at in range(half)])
        world = halves(bits, bits)
        told = maker(world)
        if not is_row_of(marks, 2 * half, told) or not all_yes(world, told, judge):
            return ("unshown", world, told)
        middle = (bits[-1], bits[0], *places_of(marks, told[half - 1:half + 1]))
        if middle in met:
            front, papers = met[middle]
            return ("fooled", halves(front, bits), papers[:half] + told[half:])
        met[middle] = (bits, told)


def bits_of_world(half, thing):
    """The pair of rows of bits whose halves a thing is, None if it is no world of halves with so many bits each."""
    if not isinstance(thing, World) or thing.web.many != 2 * half:
        return None
    bits = thing.web.signs[:half]
    other = tuple([sign - 2 for sign in thing.web.signs[half:]])
    if not is_bits(bits) or not is_bits(other) or not thing == halves(bits, other):
        return None
    return (bits, other)


def is_crossing(judge, maker, marks, half, thing):
    """Whether a thing is a triple that crossed may tell."""
    need_half(marks, half)
    if not is_triple(thing):
        return False
    word, world, told = thing
    pair = bits_of_world(half, world)
    if pair is None:
        return False
    if word == "unshown":
        return pair[0] == pair[1] and is_unshown(judge, maker, marks, world, told)
    return word == "fooled" and pair[0] != pair[1] and is_shown(judge, marks, world, told)


def sums_of(bits, prime, point):
    """For each house of a half the pair (power, sum)."""
    power = 1
    total = 0
    told = []
    for bit in bits:
        total = int(total + power * bit) % prime
        told.append((power, total))
        power = int(power * point) % prime
    return told


def dice_papers(bits, other, prime, point):
    """The papers of a row of two halves for a thrown point."""
    need_bits(bits, other)
    need_prime(prime, point)
    front = sums_of(bits, prime, point)
    whole = front[-1][1]
    return tuple([(point, power, total, whole) for power, total in front + sums_of(other, prime, point)])


def beside(near, name):
    """The neighbour of a name, None if there is none."""
    for row in near:
        if row[0] == name:
            return row
    return None


def goes_on(own, left, prime):
    """Whether the power and the sum of a house are due, behind its left neighbour or at the front of a half."""
    _, sign, paper = own
    bit = sign & 1
    if left is None or left[3] < 2 and sign >= 2:
        return paper[1] == 1 and paper[2] == bit
    due = int(left[4][1] * paper[0]) % prime
    return paper[1] == due and paper[2] == int(left[4][2] + paper[1] * bit) % prime


def is_back(sign, right):
    """Whether a house is the last one of a half."""
    return right is None or right[3] >= 2 and sign < 2


def dice_judge(prime, point):
    """The judge that knows the thrown point."""
    need_prime(prime, point)

    def judge(seen):
        own, near = seen
        name, sign, paper = own
        papers = [paper, *[row[4] for row in near]]
        if name is None or not all([is_row(prime, item) and len(item) == 4 for item in papers]):
            return False
        if not all([item[0] == paper[0] and item[3] == paper[3] for item in papers]):
            return False
        if name == 0 and paper[0] != point or not goes_on(own, beside(near, name - 1), prime):
            return False
        return not is_back(sign, beside(near, name + 1)) or paper[2] == paper[3]

    return judge


def error(bits, other, prime):
    """The pair (top, bottom) of how many points of all are such that some papers make all say yes."""
    need_bits(bits, other)
    need_only_prime(prime)
    # No papers but dice_papers can do, and they do where both wholes agree.
    good = len([point for point in range(prime)
                if sums_of(bits, prime, point)[-1] == sums_of(other, prime, point)[-1]])
    common = gcd(good, prime)
    return (good // common, prime // common)
