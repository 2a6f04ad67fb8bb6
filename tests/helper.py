"""What several tests need: odd things to pass, random books and webs, and slow but plain ways to count."""

import itertools
import random

from nearpapers.books import Book
from nearpapers.covers import ring_world
from nearpapers.desks import Desk
from nearpapers.disks import Disk
from nearpapers.errors import BadWeb, NoHouse
from nearpapers.forms import tree_of, trees
from nearpapers.knowers import Knower, knows
from nearpapers.nets import Net
from nearpapers.records import Record
from nearpapers.rules import Rule
from nearpapers.sayings import Saying
from nearpapers.webs import Web
from nearpapers.worlds import World

ONE = Web((0,), ())
E = Knower(1, 2, ((0, 1, 0, 1, 0, 0),), ((0, (0,)), (0, (0, 0, 0)), (0, (0, 1)), (0, (0, 1, 1))))


def nested(thing, times, kind):
    """A thing within so many lists or tuples."""
    for _ in range(times):
        thing = kind([thing])
    return thing


def odd_things():
    """Objects of many kinds that are no number, no tuple of numbers and no tuple of tuples of numbers."""
    return [
        True, False, None, -1, -10 ** 19, "", "0", "signs", b"", b"\x00", bytearray(b"\x01"), memoryview(b"\x01"),
        [], [0], [(0, 1, 0)], {}, {0: 1}, {"a": ()}, range(3), slice(0, 1), Ellipsis, NotImplemented,
        object(), int, tuple, len, ValueError, ValueError("x"), iter((0,)), NoHouse(), BadWeb("signs"), BadWeb,
        ONE, World(ONE, None, ()), (True,), (None,), (-1,), ("0",), ((0,),), ([0],), (0, [1]), (ONE,),
        nested(0, 40, tuple), nested(0, 40, list), nested((), 40, tuple), (0, nested(0, 39, tuple)),
        tuple([0.5 == 1] * 20000), (lambda: 0), Disk(), Desk(), Net(World(ONE, (7,), ()), 3),
        Record(World(ONE, (7,), ()), 3, ()), Rule(3, ("not", ("yes",))), Saying(("not", ("yes",))), (Disk(),),
        Book(1, 1, ()), (0, World(ONE, (3,), ())),
    ]


def row_web(many, signs=(0,), weight=0):
    """Houses in a row."""
    return Web(tuple([signs[k % len(signs)] for k in range(many)]),
               tuple([(k, k + 1, weight) for k in range(many - 1)]))


def ring_web(signs):
    """Houses round, within the bounds of a web."""
    last = len(signs) - 1
    return Web(tuple(signs), tuple(sorted([(0, last, 0)] + [(k, k + 1, 0) for k in range(last)])))


def named_world(dice, web, picked=2):
    """A world of a web with drawn names, each tie picked with one chance of so many."""
    names = tuple(dice.sample(range(1000000), web.many))
    return World(web, names, tuple([at for at in range(len(web.ties)) if dice.randrange(picked) == 0]))


def big_ring(many, names):
    """The world of a ring of houses with names, past the bounds of a web."""
    return World(ring_world((0,) * many).web, names, ())


def random_web(dice, many, signs=4, more=3, weights=1):
    """A joined web: a random tree and some ties more."""
    pairs = {(dice.randrange(house), house) for house in range(1, many)}
    if many > 1:
        for _ in range(dice.randrange(more + 1)):
            pairs.add(tuple(sorted(dice.sample(range(many), 2))))
    order = list(range(many))
    dice.shuffle(order)
    ties = sorted([tuple(sorted((order[a], order[b]))) for a, b in pairs])
    return Web(tuple([dice.randrange(signs) for _ in range(many)]),
               tuple([(a, b, dice.randrange(weights)) for a, b in ties]))


def random_slim_tree(dice, many, signs):
    """A tree none of whose houses has more than three neighbours."""
    degrees = [0] * many
    ties = []
    for house in range(1, many):
        up = dice.choice([k for k in range(house) if degrees[k] < 3])
        degrees[up] += 1
        degrees[house] += 1
        ties.append((up, house, 0))
    return Web(tuple([dice.randrange(signs) for _ in range(many)]), tuple(sorted(ties)))


def all_looks(signs, marks):
    """Every look of so many signs and marks."""
    cells = list(itertools.product(range(signs), range(marks)))
    return [(sign, mark, near) for sign, mark in cells for many in range(4)
            for near in itertools.combinations_with_replacement(cells, many)]


def random_book(dice, signs, marks, part):
    """A book in which each look stands with this chance of a hundred."""
    return Book(signs, marks, tuple(sorted([look for look in all_looks(signs, marks) if dice.randrange(100) < part])))


def colours(signs, marks):
    """The book that lets all marks of neighbours be unlike."""
    return Book(signs, marks, tuple(sorted(
        [look for look in all_looks(signs, marks) if all(mark != look[1] for _, mark in look[2])])))


def plain_near(web, house):
    """The neighbours of a house, by going through all ties."""
    return sorted([b for a, b, _ in web.ties if a == house] + [a for a, b, _ in web.ties if b == house])


def plain_yes(book, web, marks):
    """Whether all houses find their look in the book."""
    return all((web.signs[house], marks[house],
                tuple(sorted([(web.signs[k], marks[k]) for k in plain_near(web, house)]))) in book.looks
               for house in range(web.many))


def plain_many(book, web):
    """How many markings all houses say yes to, by trying all."""
    return sum(plain_yes(book, web, marks) for marks in itertools.product(range(book.marks), repeat=web.many))


def some_judges():
    """Judges that look at all that a view has, and at parts of it."""
    return [
        lambda seen: True,
        lambda seen: sum(repr(seen).encode()) % 3 != 0,
        lambda seen: len(seen[1]) % 2 == 0,
        lambda seen: seen[0][1] in [row[3] for row in seen[1]],
    ]


def dice_of(number):
    """A row of chances that is the same each time."""
    return random.Random(number)


def bundles(kinds, most):
    return sorted([row for many in range(most + 1)
                   for row in itertools.combinations_with_replacement(range(kinds), many)])


def knower_by(signs, kinds, step, whole):
    """The knower whose steps and wholes two functions of (sign, bundle) tell."""
    steps = tuple([tuple([step(sign, bundle) for bundle in bundles(kinds, 2)]) for sign in range(signs)])
    wholes = tuple([(sign, bundle) for sign in range(signs) for bundle in bundles(kinds, 3) if whole(sign, bundle)])
    return Knower(signs, kinds, steps, wholes)


def remainder(signs, modulus, asked):
    """Knows the trees whose signs add up to what is asked, modulo a number of kinds."""
    return knower_by(signs, modulus, lambda sign, bundle: (sign + sum(bundle)) % modulus,
                     lambda sign, bundle: (sign + sum(bundle)) % modulus == asked)


def houses_modulo(signs, modulus, asked):
    """Knows the trees whose number of houses is what is asked, modulo a number of kinds."""
    return knower_by(signs, modulus, lambda sign, bundle: (1 + sum(bundle)) % modulus,
                     lambda sign, bundle: (1 + sum(bundle)) % modulus == asked)


def knows_all(signs):
    """Knows all trees."""
    return knower_by(signs, 1, lambda sign, bundle: 0, lambda sign, bundle: True)


def knows_none(signs):
    """Knows no tree."""
    return knower_by(signs, 1, lambda sign, bundle: 0, lambda sign, bundle: False)


def only_tree(web, signs):
    """Knows the trees of one form alone, told by a web: a kind for each branch of the web, and one for all others."""
    near = {house: plain_near(web, house) for house in range(web.many)}

    def branch(house, up):
        return (web.signs[house], tuple(sorted([branch(k, house) for k in near[house] if k != up])))

    found = sorted({branch(house, up) for house in near for up in near[house]})
    place = {one: at for at, one in enumerate(found)}
    wholes = {branch(house, None) for house in near}

    def made(sign, bundle):
        return (sign, tuple(sorted([found[k] for k in bundle]))) if all(k < len(found) for k in bundle) else None

    return knower_by(signs, len(found) + 1, lambda sign, bundle: place.get(made(sign, bundle), len(found)),
                     lambda sign, bundle: made(sign, bundle) in wholes)


SMALL = {1: 8, 2: 5, 3: 4}
LISTED = {}


def small_trees(signs):
    """The pairs (form, web) of all small slim trees."""
    if signs not in LISTED:
        LISTED[signs] = [(one, tree_of(one)) for many in range(1, SMALL[signs] + 1) for one in trees(signs, many)]
    return LISTED[signs]


def small_known(knower):
    """The forms of the small trees that a knower knows."""
    return [one for one, web in small_trees(knower.signs) if knows(knower, web)]


def some_knowers(signs):
    """Knowers of some kinds."""
    told = [knows_all(signs), knows_none(signs), houses_modulo(signs, 3, 1), houses_modulo(signs, 2, 0),
            only_tree(row_web(3, (0, signs - 1)), signs), only_tree(Web((0,), ()), signs)]
    if signs == 1:
        return [*told, E]
    return [*told, remainder(signs, 2, 1), remainder(signs, 3, 0)]


def plain_holds(form, web, told):
    """Whether a form is true of a web, names being told as houses and as lists of houses, by trying all."""
    word = form[0]
    houses = range(web.many)
    if word == "yes":
        return True
    if word == "tie":
        return told[form[2]] in plain_near(web, told[form[1]])
    if word == "same":
        return told[form[1]] == told[form[2]]
    if word == "sign":
        return web.signs[told[form[1]]] == form[2]
    if word == "in":
        return told[form[1]] in told[form[2]]
    if word == "not":
        return not plain_holds(form[1], web, told)
    if word == "both":
        return plain_holds(form[1], web, told) and plain_holds(form[2], web, told)
    if word == "either":
        return plain_holds(form[1], web, told) or plain_holds(form[2], web, told)
    ways = houses if word in ("some", "every") else [
        lot for many in range(web.many + 1) for lot in itertools.combinations(houses, many)]
    truths = [plain_holds(form[2], web, {**told, form[1]: way}) for way in ways]
    return all(truths) if word in ("every", "everyset") else any(truths)


def random_body(dice, deep, houses, sets, signs=2):
    """A form without names told in it, of names that are told around it."""
    if deep > 1 and dice.randrange(5):
        word = dice.choice(["not", "both", "either", "both", "either"])
        return (word, *[random_body(dice, deep - 1, houses, sets, signs) for _ in range(1 if word == "not" else 2)])
    words = ["sign"] + (["tie", "tie", "tie", "same"] if len(houses) > 1 else []) + (["in"] * 3 if sets else [])
    word = dice.choice(words)
    if word in ("tie", "same"):
        return (word, *dice.sample(houses, 2))
    return (word, dice.choice(houses), dice.randrange(signs) if word == "sign" else dice.choice(sets))


def random_form(dice, houses, sets, deep):
    """A form of a saying that tells all these names at its front."""
    form = random_body(dice, deep, houses, sets)
    names = houses + sets
    for name in dice.sample(names, len(names)):
        form = (dice.choice(["some", "every"] if name in houses else ["someset", "everyset"]), name, form)
    return form
