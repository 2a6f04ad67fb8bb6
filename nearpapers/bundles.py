"""Bundles: tuples in order of kinds of branches."""

from nearpapers.plain import is_row, is_sorted


def is_bundle(kinds, most, thing):
    """Whether a thing is a bundle of at most so many kinds."""
    return isinstance(thing, tuple) and len(thing) <= most and is_row(kinds, thing) and is_sorted(thing)


def small_bundles(lot):
    """The ascending list of the bundles of at most two kinds of a lot."""
    bundles = [()]
    for at, one in enumerate(lot):
        bundles.append((one,))
        bundles.extend([(one, other) for other in lot[at:]])
    return bundles


def many_small(kinds):
    """How many bundles of at most two of so many kinds there are."""
    return 1 + kinds + kinds * (kinds + 1) // 2


def place_of(kinds, bundle):
    """The place of a bundle among the ascending bundles of at most two of so many kinds."""
    if bundle == ():
        return 0
    one = bundle[0]
    # Each lesser kind stands first in one bundle alone and in one with each kind from itself on.
    single = 1 + one * (kinds + 1) - one * (one - 1) // 2
    return single if len(bundle) == 1 else single + 1 + bundle[1] - one
