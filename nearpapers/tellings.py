"""Papers of few marks that makers tell, and what judges say of them."""

from nearpapers.errors import NoMarks
from nearpapers.worlds import all_yes, is_paper


def is_marks(most, thing):
    """Whether a thing is a tuple of unlike papers, one at least and at most so many."""
    if not isinstance(thing, tuple) or not 1 <= len(thing) <= most or not all([is_paper(item) for item in thing]):
        return False
    return all([thing[at] not in thing[:at] for at in range(len(thing))])


def need_marks(most, thing):
    """Nothing, if a thing is a tuple of at most so many marks."""
    if not is_marks(most, thing):
        raise NoMarks()


def is_row_of(marks, many, thing):
    """Whether a thing is a tuple of so many of the marks; what is no paper is none, even if it is equal to one."""
    if not isinstance(thing, tuple) or len(thing) != many:
        return False
    return all([is_paper(item) and item in marks for item in thing])


def places_of(marks, papers):
    """The places of papers among the marks."""
    return tuple([marks.index(paper) for paper in papers])


def is_shown(judge, marks, world, thing):
    """Whether a thing is papers of the marks for a world to which all say yes."""
    return is_row_of(marks, world.web.many, thing) and all_yes(world, thing, judge)


def is_unshown(judge, maker, marks, world, thing):
    """Whether a thing is what the maker tells for a world, and not all say yes to it."""
    told = maker(world)
    return bool(told == thing) and not is_shown(judge, marks, world, told)


def is_triple(thing):
    """Whether a thing is a triple."""
    return isinstance(thing, tuple) and len(thing) == 3
