"""What several tests need: odd things to pass, random books and webs, and slow but plain ways to count."""

import itertools
import random

from nearpapers.books import Book
from nearpapers.errors import BadWeb, NoHouse
from nearpapers.webs import Web
from nearpapers.worlds import World

ONE = Web((0,), ())


def nested(thing, times, kind):
    """A thing within so many lists or tuples."""
    for _ in range(times):
        thing = kind([thing])
    return thing


def odd_things():
    """Objects of many kinds that are no number, no tuple of numbers and no tuple of tuples of numbers."""
    return [
        True, False, None, -1, -10 ** 19, "", "0", "signs", b"", b"\x00", bytearray(b"\x01"), memoryview(b"\x01"),
        [], [0], [(0, 1, 0)], {}, {0: 1}, {"a": ()}, range(3), slice(0, 1), Ellipsis, NotImplemented,
        object(), int, tuple, len, ValueError, ValueError("x"), iter((0,)), NoHouse(), BadWeb("signs"), BadWeb,
        ONE, World(ONE, None, ()), (True,), (None,), (-1,), ("0",), ((0,),), ([0],), (0, [1]), (ONE,),
        nested(0, 40, tuple), nested(0, 40, list), nested((), 40, tuple), (0, nested(0, 39, tuple)),
        tuple([0.5 == 1] * 20000), (lambda: 0),
    ]


def row_web(many, signs=(0,), weight=0):
    """Houses in a row."""
    return Web(tuple([signs[k % len(signs)] for k in range(many)]),
               tuple([(k, k + 1, weight) for k in range(many - 1)]))


def ring_web(signs):
    """Houses round, within the bounds of a web."""
    last = len(signs) - 1
    return Web(tuple(signs), tuple(sorted([(0, last, 0)] + [(k, k + 1, 0) for k in range(last)])))


def random_web(dice, many, signs=4, more=3, weights=1):
    """A joined web: a random tree and some ties more."""
    pairs = {(dice.randrange(house), house) for house in range(1, many)}
    if many > 1:
        for _ in range(dice.randrange(more + 1)):
            pairs.add(tuple(sorted(dice.sample(range(many), 2))))
    order = list(range(many))
    dice.shuffle(order)
    ties = sorted([tuple(sorted((order[a], order[b]))) for a, b in pairs])
    return Web(tuple([dice.randrange(signs) for _ in range(many)]),
               tuple([(a, b, dice.randrange(weights)) for a, b in ties]))


def random_slim_tree(dice, many, signs):
    """A tree none of whose houses has more than three neighbours."""
    degrees = [0] * many
    ties = []
    for house in range(1, many):
        up = dice.choice([k for k in range(house) if degrees[k] < 3])
        degrees[up] += 1
        degrees[house] += 1
        ties.append((up, house, 0))
    return Web(tuple([dice.randrange(signs) for _ in range(many)]), tuple(sorted(ties)))


def all_looks(signs, marks):
    """Every look of so many signs and marks."""
    cells = list(itertools.product(range(signs), range(marks)))
    return [(sign, mark, near) for sign, mark in cells for many in range(4)
            for near in itertools.combinations_with_replacement(cells, many)]


def random_book(dice, signs, marks, part):
    """A book in which each look stands with this chance of a hundred."""
    return Book(signs, marks, tuple(sorted([look for look in all_looks(signs, marks) if dice.randrange(100) < part])))


def colours(signs, marks):
    """The book that lets all marks of neighbours be unlike."""
    return Book(signs, marks, tuple(sorted(
        [look for look in all_looks(signs, marks) if all(mark != look[1] for _, mark in look[2])])))


def plain_near(web, house):
    """The neighbours of a house, by going through all ties."""
    return sorted([b for a, b, _ in web.ties if a == house] + [a for a, b, _ in web.ties if b == house])


def plain_yes(book, web, marks):
    """Whether all houses find their look in the book."""
    return all((web.signs[house], marks[house],
                tuple(sorted([(web.signs[k], marks[k]) for k in plain_near(web, house)]))) in book.looks
               for house in range(web.many))


def plain_many(book, web):
    """How many markings all houses say yes to, by trying all."""
    return sum(plain_yes(book, web, marks) for marks in itertools.product(range(book.marks), repeat=web.many))


def some_judges():
    """Judges that look at all that a view has, and at parts of it."""
    return [
        lambda seen: True,
        lambda seen: sum(repr(seen).encode()) % 3 != 0,
        lambda seen: len(seen[1]) % 2 == 0,
        lambda seen: seen[0][1] in [row[3] for row in seen[1]],
    ]


def dice_of(number):
    """A row of chances that is the same each time."""
    return random.Random(number)
