"""Terms and tests put together from smaller ones."""

NAME = ("name",)
ITS_NAME = ("itsname",)
WEIGHT = ("weight",)


def number(many):
    """The term of a number."""
    return ("number", many)


def own(place):
    """The term of a number of the own paper."""
    return ("own", place)


def its(place):
    """The term of a number of a neighbour's paper."""
    return ("its", place)


def plus(one, other):
    """The term of a sum."""
    return ("plus", one, other)


def same(one, other):
    """The test whether two terms tell the same."""
    return ("same", one, other)


def differ(one, other):
    """The test whether two terms do not tell the same."""
    return ("not", same(one, other))


def below(one, other):
    """The test whether a term tells less than another."""
    return ("below", one, other)


def if_so(test, other):
    """The test whether another test holds if one does."""
    return ("either", ("not", test), other)


def just_if(test, other):
    """The test whether both tests hold or neither."""
    return ("either", ("both", test, other), ("both", ("not", test), ("not", other)))


def chosen(test, one, other):
    """The test that is one if a test holds, and another one if not."""
    return ("either", ("both", test, one), ("both", ("not", test), other))


def zero(term):
    """The test whether a term tells 0."""
    return same(term, number(0))


def each_same(place):
    """The test whether a number is the same in each neighbour's paper as in the own one."""
    return ("each", same(its(place), own(place)))


def one_less(place):
    """The test whether a number of a neighbour's paper is that of the own one less 1."""
    return same(plus(its(place), number(1)), own(place))


def one_more(place):
    """The test whether a number of a neighbour's paper is that of the own one plus 1."""
    return same(its(place), plus(own(place), number(1)))


def picked():
    """The test whether the tie to a neighbour is picked."""
    return same(("picked",), number(1))
