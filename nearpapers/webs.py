"""Webs: houses with signs, and ties with weights between them."""

from nearpapers.errors import BadWeb, NoHouse, NoOrder
from nearpapers.plain import is_below, is_order, is_row

MOST_HOUSES = 16
SIGNS = 4
WEIGHTS = 1000


class Web:
    """A joined web; signs has one sign for each house, ties are triples (a, b, weight)."""

    def __init__(self, signs, ties):
        wrong = wrong_part(signs, ties)
        if wrong is not None:
            raise BadWeb(wrong)
        self.signs = signs
        self.ties = ties
        self.many = len(signs)

    def __eq__(self, other):
        return isinstance(other, Web) and self.signs == other.signs and self.ties == other.ties


def big_web(signs, ties):
    """A web that the package itself puts together: its sizes are not bounded, nor is it checked."""
    web = Web((0,), ())
    web.signs = signs
    web.ties = ties
    web.many = len(signs)
    return web


def wrong_part(signs, ties):
    """What is wrong with signs and ties as those of a web, or None."""
    if not is_row(SIGNS, signs) or not 1 <= len(signs) <= MOST_HOUSES:
        return "signs"
    if not isinstance(ties, tuple):
        return -1
    wrong = first_wrong_tie(len(signs), ties)
    if wrong is None and -1 in steps_from(near_rows(len(signs), ties), 0):
        return "joined"
    return wrong


def is_tie(many, thing):
    """Whether a thing is a tie of so many houses."""
    if not isinstance(thing, tuple) or len(thing) != 3:
        return False
    one, other, weight = thing
    return is_below(many, one) and is_below(many, other) and one < other and is_below(WEIGHTS, weight)


def first_wrong_tie(many, ties):
    """The number of the first tie that is none or not behind the one ahead, or None."""
    ahead = (-1, -1)
    for at, tie in enumerate(ties):
        if not is_tie(many, tie) or tie[:2] <= ahead:
            return at
        ahead = tie[:2]
    return None


def near_rows(many, ties):
    """The list that has for each house the list of its neighbours, ascending since ties are."""
    near = [[] for _ in range(many)]
    for one, other, _ in ties:
        near[one].append(other)
        near[other].append(one)
    return near


def near_lists(web):
    """For each house of a web the list of its neighbours, ascending."""
    return near_rows(web.many, web.ties)


def steps_from(near, house):
    """For each house over how few ties one comes to it from this one, -1 where one does not."""
    far = [-1] * len(near)
    far[house] = 0
    edge = [house]
    while edge:
        beyond = []
        for one in list(edge):
            for other in near[one]:
                if far[other] < 0:
                    far[other] = far[one] + 1
                    beyond.append(other)
        edge = beyond
    return far


def neighbours(web, house):
    """The lot of the houses tied to a house."""
    if not is_below(web.many, house):
        raise NoHouse()
    return tuple(near_lists(web)[house])


def distances(web, house):
    """For each house over how few ties one comes to it from this one."""
    if not is_below(web.many, house):
        raise NoHouse()
    return tuple(steps_from(near_lists(web), house))


def kind(web):
    """The word "tree", "ring" or "other"."""
    if len(web.ties) == web.many - 1:
        return "tree"
    if web.many >= 3 and all([len(row) == 2 for row in near_lists(web)]):
        return "ring"
    return "other"


def slim(web):
    """Whether no house has more than three neighbours."""
    return all([len(row) <= 3 for row in near_lists(web)])


def renumbered(web, order):
    """The same web, house k being called order[k]."""
    if not is_order(web.many, order):
        raise NoOrder()
    signs = [0] * web.many
    for house, called in enumerate(order):
        signs[called] = web.signs[house]
    ties = [joining(order[one], order[other], weight) for one, other, weight in web.ties]
    return big_web(tuple(signs), tuple(sorted(ties)))


def joining(one, other, weight):
    """The tie of two houses, the lesser first."""
    return (min(one, other), max(one, other), weight)
