"""Records of houses that stepped: what was said of their registers, and what is wrong in it."""

from nearpapers.errors import BadRecord, NoNumber, NoOrder
from nearpapers.plain import is_below, is_between, is_row
from nearpapers.registers import begun, is_register, need_most, step_now
from nearpapers.webs import near_lists

MOST_EVENTS = 3000


class Record:
    """The world, the most, and the events, pairs (house, register), that followed one another."""

    def __init__(self, world, most, events):
        need_most(world, most)
        wrong = first_no_event(world.web.many, events)
        if wrong is not None:
            raise BadRecord(wrong)
        self.world = world
        self.most = most
        self.events = events

    def __eq__(self, other):
        return (isinstance(other, Record) and self.world == other.world
                and self.most == other.most and self.events == other.events)


def is_event(many, thing):
    """Whether a thing is a pair of one of so many houses and a register."""
    return isinstance(thing, tuple) and len(thing) == 2 and is_below(many, thing[0]) and is_register(thing[1])


def first_no_event(many, events):
    """The number of the first event that is none, -1 if there is no tuple of at most so many, None if all are well."""
    if not isinstance(events, tuple) or len(events) > MOST_EVENTS:
        return -1
    for at, event in enumerate(events):
        if not is_event(many, event):
            return at
    return None


def begun_all(world):
    """The list of the registers that the houses of a world begin with."""
    return [begun(name) for name in world.names]


def first_wrong(record):
    """The pair (index, register) of the first event that is not what its house was to take, with what it was."""
    world = record.world
    near = near_lists(world.web)
    held = begun_all(world)
    for at, (house, said) in enumerate(record.events):
        due = step_now(world, near, record.most, held, house)
        if due != said:
            return (at, due)
        held[house] = said
    return None


def registers_then(record, at):
    """The registers behind so many events, as they are said."""
    if not is_between(0, len(record.events), at):
        raise NoNumber()
    held = begun_all(record.world)
    for house, said in record.events[:at]:
        held[house] = said
    return tuple(held)


def recorded(world, most, order):
    """The record of houses that step in an order."""
    need_most(world, most)
    if not is_row(world.web.many, order) or len(order) > MOST_EVENTS:
        raise NoOrder()
    near = near_lists(world.web)
    held = begun_all(world)
    events = []
    for house in order:
        held[house] = step_now(world, near, most, held, house)
        events.append((house, held[house]))
    return Record(world, most, tuple(events))


def taken_by(record, house):
    """The registers that a house took, one behind the other."""
    return [said for other, said in record.events if other == house]


def is_alike(record, thing):
    """Whether a thing is a record of the same world and most in which each house takes the same registers."""
    if not isinstance(thing, Record) or not record.world == thing.world or record.most != thing.most:
        return False
    return all([taken_by(record, house) == taken_by(thing, house) for house in range(record.world.web.many)])
