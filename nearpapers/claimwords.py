"""Which things are claims, and what all functions of claims ask of a world first."""

from nearpapers.errors import NoClaim, NoNames, TooMany
from nearpapers.plain import is_between

PLAIN_CLAIMS = ("leader", "tree", "balance", "sides", "odd", "cover", "pairing", "nearest", "round", "least")
MOST_COUNTED = 100
MOST_HOUSES = 16


def is_claim(thing):
    """Whether a thing is a claim."""
    if not isinstance(thing, tuple) or not thing or not isinstance(thing[0], str):
        return False
    if thing[0] == "many":
        return len(thing) == 2 and is_between(1, MOST_COUNTED, thing[1])
    return len(thing) == 1 and thing[0] in PLAIN_CLAIMS


def need_claim(thing):
    """Nothing, if a thing is a claim."""
    if not is_claim(thing):
        raise NoClaim()


def need_small_named(world):
    """Nothing, if the houses of a world have names and are not too many."""
    if world.names is None:
        raise NoNames()
    if world.web.many > MOST_HOUSES:
        raise TooMany(MOST_HOUSES)
