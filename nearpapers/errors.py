"""The errors of the package, one class for each kind of failure."""


class NearError(ValueError):
    """What all errors of the package derive from."""


class BadWeb(NearError):
    """Signs and ties make no web; part tells what is wrong."""

    def __init__(self, part):
        self.part = part


class NoHouse(NearError):
    """There is no such house."""


class NoOrder(NearError):
    """This is no order of houses."""


class NoTree(NearError):
    """The web is no tree, or none of the asked kind."""


class NoForm(NearError):
    """This is the form of no tree."""


class NoNumber(NearError):
    """This is no number of the asked range."""


class NoTurns(NearError):
    """These are no turns for the ties of a web."""


class NoNames(NearError):
    """These are no names for the houses, or there are none."""


class NoPicked(NearError):
    """This is no lot of numbers of ties."""


class NoPapers(NearError):
    """These are no papers for the houses."""


class BadJudge(NearError):
    """The judge told no flag for this house."""

    def __init__(self, house):
        self.house = house


class BadBook(NearError):
    """This makes no book; part tells what is wrong."""

    def __init__(self, part):
        self.part = part


class TooMany(NearError):
    """There are more than the most that are let in."""

    def __init__(self, most):
        self.most = most


class NoSigns(NearError):
    """These are no signs of a ring."""


class NotShown(NearError):
    """Not all houses say yes."""


class BadKnower(NearError):
    """This makes no knower; part tells what is wrong."""

    def __init__(self, part):
        self.part = part


class OtherSigns(NearError):
    """The two have not as many signs."""


class BadSaying(NearError):
    """This form makes no saying."""


class BadRule(NearError):
    """This makes no rule; part tells what is wrong."""

    def __init__(self, part):
        self.part = part


class NoClaim(NearError):
    """This is no claim."""


class NotTrue(NearError):
    """The claim is not true of the world."""


class BadTest(NearError):
    """The test told no flag."""


class NoMarks(NearError):
    """These are no marks."""


class NoBits(NearError):
    """These are no bits."""


class NoPrime(NearError):
    """This is none of the primes."""


class NoName(NearError):
    """This is no name."""


class NoHeard(NearError):
    """This is nothing that a house can have heard."""


class NoRegisters(NearError):
    """These are no registers of the houses."""


class BadOrders(NearError):
    """These are no orders; index tells the first that is none."""

    def __init__(self, index):
        self.index = index


class NoRegister(NearError):
    """A thing is given for a register and is none."""


class NoRow(NearError):
    """This is no row, or too long a one."""


class NoCut(NearError):
    """This does not tell what is kept of the waiting blocks."""


class NoBlocks(NearError):
    """This is no list of rows."""


class NoDeed(NearError):
    """This is no deed, or one that cannot be done."""


class BadRecord(NearError):
    """These are no events; index tells the first that is none."""

    def __init__(self, index):
        self.index = index


class BadText(NearError):
    """The text tells nothing; line is the first that is wrong."""

    def __init__(self, line):
        self.line = line


class BadWord(NearError):
    """The text tells nothing; place is that of the first wrong word."""

    def __init__(self, place):
        self.place = place


class NothingDone(NearError):
    """There is nothing to take back."""


class NoLine(NearError):
    """This is no line for the desk."""


class NoThing(NearError):
    """Nothing of this name is kept."""

    def __init__(self, name):
        self.name = name
