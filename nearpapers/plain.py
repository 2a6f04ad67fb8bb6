"""Checks of plain values; the thing that is judged comes last and may be any object."""


def is_number(thing):
    """Whether a thing is an integer from 0 on; a flag is none."""
    return isinstance(thing, int) and not isinstance(thing, bool) and thing >= 0


def is_below(bound, thing):
    """Whether a thing is a number below a bound."""
    return is_number(thing) and thing < bound


def is_between(low, high, thing):
    """Whether a thing is a number from low to high, both let in."""
    return is_number(thing) and low <= thing <= high


def is_row(bound, thing):
    """Whether a thing is a tuple of numbers below a bound."""
    return isinstance(thing, tuple) and all([is_below(bound, item) for item in thing])


def is_lot(bound, thing):
    """Whether a thing is an ascending tuple of numbers below a bound."""
    return is_row(bound, thing) and all([thing[k - 1] < thing[k] for k in range(1, len(thing))])


def is_sorted(thing):
    """Whether a tuple of what can be compared is in order."""
    return all([thing[k - 1] <= thing[k] for k in range(1, len(thing))])


def is_order(many, thing):
    """Whether a thing is a tuple of all numbers below many, each once."""
    return is_row(many, thing) and len(thing) == many and len(set(thing)) == many
