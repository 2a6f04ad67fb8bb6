"""Covers: webs laid over themselves, and papers lifted to them."""

from nearpapers.errors import NoNumber, NoPapers, NoSigns, NotShown, NoTurns
from nearpapers.plain import is_between, is_order, is_row
from nearpapers.webs import SIGNS, big_web, joining, near_rows, steps_from
from nearpapers.worlds import World, is_papers, says


def is_turns(many, sheets, thing):
    """Whether a thing is a tuple of so many orders of the sheets."""
    return isinstance(thing, tuple) and len(thing) == many and all([is_order(sheets, turn) for turn in thing])


def cover(web, sheets, turns):
    """The pair (web, below): the part of a cover that holds house 0 of sheet 0, and what lies below."""
    if not is_between(1, 4, sheets):
        raise NoNumber()
    if not is_turns(len(web.ties), sheets, turns):
        raise NoTurns()
    # Place sheet * many + house is that house on that sheet: places ascend as the pairs (sheet, house).
    many = web.many
    ties = []
    for (one, other, weight), turn in zip(web.ties, turns):
        for sheet in range(sheets):
            ties.append(joining(sheet * many + one, turn[sheet] * many + other, weight))
    far = steps_from(near_rows(sheets * many, ties), 0)
    held = [place for place in range(sheets * many) if far[place] >= 0]
    called = {place: at for at, place in enumerate(held)}
    below = tuple([int(place) % many for place in range(sheets * many) if far[place] >= 0])
    kept = [(called[one], called[other], weight) for one, other, weight in ties if one in called]
    return (big_web(tuple([web.signs[house] for house in below]), tuple(sorted(kept))), below)


def lifted(papers, below):
    """The papers of a cover: each house has that of the house below."""
    return tuple([papers[house] for house in below])


def ring_world(signs):
    """The nameless ring of houses with these signs, weights 0, nothing picked."""
    last = len(signs) - 1
    ties = [(house, house + 1, 0) for house in range(last)]
    return World(big_web(signs, tuple(sorted([(0, last, 0), *ties]))), None, ())


def laid_over(judge, signs, papers, times):
    """The pair (world, papers) of a ring, to which all say yes, laid over itself so many times."""
    if not is_row(SIGNS, signs) or not 3 <= len(signs) <= 12:
        raise NoSigns()
    if not is_papers(len(signs), papers):
        raise NoPapers()
    if not is_between(2, 4, times):
        raise NoNumber()
    if not all(says(ring_world(signs), papers, judge)):
        raise NotShown()
    return (ring_world(signs * times), papers * times)
