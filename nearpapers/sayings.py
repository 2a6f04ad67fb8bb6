"""Sayings about the houses of a web, and whether they hold."""

from nearpapers.errors import BadSaying, TooMany
from nearpapers.saidforms import listed, many_forms, sets_at_once
from nearpapers.truths import Truths

MOST_DEEP = 10
MOST_FORMS = 40
MOST_HOUSES = 6
MOST_SETS = 2


class Saying:
    """A form in which each name is told around where it stands."""

    def __init__(self, form):
        if not 1 <= many_forms(MOST_DEEP, {}, form) <= MOST_FORMS:
            raise BadSaying()
        self.form = form

    def __eq__(self, other):
        return isinstance(other, Saying) and self.form == other.form


def big_saying(form):
    """A saying that the package itself puts together: its sizes are not bounded, nor is it checked."""
    saying = Saying(("yes",))
    saying.form = form
    return saying


def holds(saying, web):
    """Whether a saying is true of a web."""
    if web.many > MOST_HOUSES:
        raise TooMany(MOST_HOUSES)
    rows = listed(saying.form)
    if sets_at_once(rows) > MOST_SETS:
        raise TooMany(MOST_SETS)
    return Truths(rows, web).table(len(rows) - 1, (), {}) == 1
