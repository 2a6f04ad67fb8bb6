"""Worlds: webs whose houses may have names; papers, views and what judges say of them."""

from nearpapers.errors import BadJudge, NoHouse, NoNames, NoPapers, NoPicked
from nearpapers.plain import is_below, is_lot, is_row

NAMES = 1000000
NUMBERS = 1000000000
MOST_ITEMS = 200
MOST_LEAVES = 2000
MOST_DEEP = 3


class World:
    """A web, the names of its houses or None, and the lot of the numbers of its picked ties."""

    def __init__(self, web, names, picked):
        if names is not None and not is_names(web.many, names):
            raise NoNames()
        if not is_lot(len(web.ties), picked):
            raise NoPicked()
        self.web = web
        self.names = names
        self.picked = picked

    def __eq__(self, other):
        return (isinstance(other, World) and self.web == other.web
                and self.names == other.names and self.picked == other.picked)


def is_names(many, thing):
    """Whether a thing is a tuple of so many unlike names."""
    return is_row(NAMES, thing) and len(thing) == many and len(set(thing)) == many


def leaves_of(deep, thing):
    """How many numbers and None stand in a paper of at most this depth, -1 for what is none."""
    if thing is None or is_below(NUMBERS, thing):
        return 1
    if deep == 0 or not isinstance(thing, tuple) or len(thing) > MOST_ITEMS:
        return -1
    total = 0
    for item in thing:
        some = leaves_of(deep - 1, item)
        total += some
        if some < 0 or total > MOST_LEAVES:
            return -1
    return total


def is_paper(thing):
    """Whether a thing is a paper."""
    return leaves_of(MOST_DEEP, thing) >= 0


def is_papers(many, thing):
    """Whether a thing is a tuple of so many papers."""
    return isinstance(thing, tuple) and len(thing) == many and all([is_paper(item) for item in thing])


def paper_key(paper):
    """What orders papers: None ahead of numbers ahead of tuples, tuples item by item."""
    if paper is None:
        return (0,)
    if isinstance(paper, tuple):
        return (2, tuple([paper_key(item) for item in paper]))
    return (1, paper)


def nameless_key(row):
    """What orders the neighbours of a nameless house."""
    return (row[1], row[2], row[3], paper_key(row[4]))


def near_fives(world, papers, house):
    """The fives (name, weight, flag, sign, paper) of the neighbours of a house, as ties stand."""
    rows = []
    for at, (one, other, weight) in enumerate(world.web.ties):
        if one == house or other == house:
            its = other if one == house else one
            name = None if world.names is None else world.names[its]
            rows.append((name, weight, at in world.picked, world.web.signs[its], papers[its]))
    return rows


def seen_from(world, papers, house):
    """The view of a house, everything being as it should."""
    rows = near_fives(world, papers, house)
    if world.names is None:
        near = sorted(rows, key=nameless_key)
        name = None
    else:
        # Names are unlike, so no comparison comes to the papers.
        near = sorted(rows)
        name = world.names[house]
    return ((name, world.web.signs[house], papers[house]), tuple(near))


def view(world, papers, house):
    """The view of a house: the pair (own, near)."""
    if not is_papers(world.web.many, papers):
        raise NoPapers()
    if not is_below(world.web.many, house):
        raise NoHouse()
    return seen_from(world, papers, house)


def says(world, papers, judge):
    """The tuple of the flags that a judge tells for the houses; it is asked once for each."""
    if not is_papers(world.web.many, papers):
        raise NoPapers()
    told = []
    for house in range(world.web.many):
        flag = judge(seen_from(world, papers, house))
        if flag is not True and flag is not False:
            raise BadJudge(house)
        told.append(flag)
    return tuple(told)


def all_yes(world, papers, judge):
    """Whether a judge tells True for each house."""
    return all(says(world, papers, judge))
