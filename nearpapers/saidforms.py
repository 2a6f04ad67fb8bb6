"""The forms of sayings: which things are forms, and the list of the forms within one."""

from nearpapers.plain import is_below
from nearpapers.webs import SIGNS

MOST_LETTERS = 4

# For each word what stands behind it: h a told name of a house, s one of a set, k a sign, f a form; H and S tell names.
SHAPES = {
    "yes": "", "tie": "hh", "same": "hh", "sign": "hk", "in": "hs", "not": "f", "both": "ff", "either": "ff",
    "some": "Hf", "every": "Hf", "someset": "Sf", "everyset": "Sf",
}


def is_name(thing):
    """Whether a thing is a name of a house or of a set."""
    if not isinstance(thing, str) or not 1 <= len(thing) <= MOST_LETTERS:
        return False
    return all(["a" <= letter <= "z" for letter in thing])


def has_shape(thing):
    """Whether a thing is a tuple of a word and as many parts as go with it."""
    if not isinstance(thing, tuple) or not thing or not isinstance(thing[0], str):
        return False
    return thing[0] in SHAPES and len(thing) == len(SHAPES[thing[0]]) + 1


def is_plain_part(part, told, thing):
    """Whether a thing is a sign, or a name of the told kind, as a part of a form asks it."""
    if part == "k":
        return is_below(SIGNS, thing)
    return is_name(thing) and told.get(thing) == part


def many_forms(deep, told, thing):
    """How many forms stand in a form of at most this depth, the names of told being told around it; -1 for none."""
    if deep == 0 or not has_shape(thing):
        return -1
    total = 1
    for part, item in zip(SHAPES[thing[0]], thing[1:]):
        if part == "H" or part == "S":
            if not is_name(item) or item in told:
                return -1
            told = {**told, item: part.lower()}
        elif part == "f":
            some = many_forms(deep - 1, told, item)
            if some < 0:
                return -1
            total += some
        elif not is_plain_part(part, told, item):
            return -1
    return total


def place_in(rows, places, form):
    """The place of a form among the rows, put behind all within it if it is not there."""
    parts = [form[0]]
    for part, item in zip(SHAPES[form[0]], form[1:]):
        parts.append(place_in(rows, places, item) if part == "f" else item)
    row = tuple(parts)
    if row not in places:
        places[row] = len(rows)
        rows.append(row)
    return places[row]


def listed(form):
    """The unlike forms within a form, as rows that have places in the list for forms; the whole form is the last."""
    rows = []
    place_in(rows, {}, form)
    return rows


def parts_within(row):
    """The places of the forms that stand at once in the form of a row."""
    return [item for part, item in zip(SHAPES[row[0]], row[1:]) if part == "f"]


def named(row):
    """The pairs (name, kind) that stand in the form of a row itself, kind being "h" or "s"."""
    return [(item, part) for part, item in zip(SHAPES[row[0]], row[1:]) if part in "hs"]


def told_by(row):
    """The pair (name, kind) that the form of a row tells, None if it tells none."""
    shape = SHAPES[row[0]]
    return (row[1], shape[0].lower()) if shape[:1] in ("H", "S") else None


def free_names(rows):
    """For each row the ascending list of the pairs (name, kind) that stand in its form and are told around it."""
    frees = []
    for row in rows:
        pairs = [pair for place in parts_within(row) for pair in frees[place]]
        teller = told_by(row)
        frees.append(sorted({pair for pair in [*named(row), *pairs] if pair != teller}))
    return frees


def sets_at_once(rows):
    """The most names of sets that are told at once somewhere in the form of the last row."""
    mosts = []
    for row in rows:
        teller = told_by(row)
        own = 1 if teller is not None and teller[1] == "s" else 0
        mosts.append(own + max([0, *[mosts[place] for place in parts_within(row)]]))
    return mosts[-1]
