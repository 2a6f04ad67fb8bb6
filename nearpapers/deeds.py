"""Which things are deeds that can be done in a net of houses."""

from nearpapers.disks import is_cut
from nearpapers.plain import is_below
from nearpapers.registers import is_register

# For each word what stands behind it: h a house, n a neighbour of the house ahead, k the number of a letter,
# r a register, o a register or None, c what is kept of the disk of the house ahead.
DEEDS = {
    "step": "h", "post": "hn", "bring": "k", "lose": "k", "double": "k", "spoil": "hr", "mishear": "hno",
    "forge": "hnr", "write": "h", "sync": "h", "cut": "hc",
}


def fits(net, part, house, thing):
    """Whether a thing is what a part of a deed asks, the house ahead being known to be one."""
    if part == "h":
        return is_below(len(net.near), thing)
    if part == "n":
        return is_below(len(net.near), thing) and thing in net.near[house]
    if part == "k":
        return is_below(len(net.letters), thing)
    if part == "c":
        return is_cut(net.disks[house], thing)
    return is_register(thing) or part == "o" and thing is None


def is_deed(net, thing):
    """Whether a thing is a deed that can be done in a net."""
    if not isinstance(thing, tuple) or not thing or not isinstance(thing[0], str) or thing[0] not in DEEDS:
        return False
    shape = DEEDS[thing[0]]
    if len(thing) != len(shape) + 1:
        return False
    for part, item in zip(shape, thing[1:]):
        if not fits(net, part, thing[1], item):
            return False
    return True
