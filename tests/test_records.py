"""Point 15.1: records of houses that stepped."""

import unittest

from nearpapers.errors import BadRecord, NoNames, NoNumber, NoOrder
from nearpapers.records import Record, first_wrong, is_alike, recorded, registers_then
from nearpapers.registers import begun, round_behind
from nearpapers.webs import Web
from nearpapers.worlds import World
from tests.healing import drawn_order, drawn_register, plain_heard, plain_stepped
from tests.helper import big_ring, dice_of, named_world, nested, odd_things, random_web, row_web
from tests.test_registers import NO_REGISTERS

ROW = World(row_web(3), (5, 9, 2), (0,))
ONE = (9, 3, 2, 1)
EVENT = (1, ONE)


def plain_begun(world):
    return [(name, 0, name, 1) for name in world.names]


def plain_recorded(world, most, order):
    held, events = plain_begun(world), []
    for house in order:
        held[house] = plain_stepped(world.names[house], most, plain_heard(world, held, house))
        events.append((house, held[house]))
    return tuple(events)


def plain_first_wrong(world, most, events):
    held = plain_begun(world)
    for at, (house, said) in enumerate(events):
        due = plain_stepped(world.names[house], most, plain_heard(world, held, house))
        if said != due:
            return (at, due)
        held[house] = said
    return None


def drawn_events(dice, world, most):
    """Events, most of them right."""
    order = tuple([dice.randrange(world.web.many) for _ in range(dice.randrange(20))])
    events = list(plain_recorded(world, most, order))
    for _ in range(dice.randrange(3) if events else 0):
        at = dice.randrange(len(events))
        events[at] = (events[at][0], drawn_register(dice, world, 4))
    return tuple(events)


class RecordTest(unittest.TestCase):
    def test_attributes_and_equal(self):
        record = Record(ROW, 3, (EVENT, (0, ONE)))
        self.assertEqual((record.world, record.most, record.events), (ROW, 3, (EVENT, (0, ONE))))
        self.assertTrue(record == Record(World(row_web(3), (5, 9, 2), (0,)), 3, (EVENT, (0, ONE))))
        others = [Record(ROW, 4, (EVENT, (0, ONE))), Record(ROW, 3, (EVENT,)), Record(ROW, 3, ((0, ONE), EVENT)),
                  Record(World(row_web(3), (5, 9, 2), ()), 3, (EVENT, (0, ONE))), ROW, (ROW, 3, (EVENT, (0, ONE)))]
        for other in others + odd_things():
            self.assertFalse(record == other)
        self.assertEqual(Record(ROW, 40, ()).events, ())

    def test_errors_in_order(self):
        for most in (3, 0, None):
            with self.assertRaises(NoNames):
                Record(World(row_web(3), None, ()), most, None)
            with self.assertRaises(NoNames):
                recorded(World(row_web(3), None, ()), most, None)
        for most in [2, 0, 41, -1, 10 ** 19, *odd_things()]:
            for events in [(), None, ((3, ONE),)]:
                with self.assertRaises(NoNumber):
                    Record(ROW, most, events)
                with self.assertRaises(NoNumber):
                    recorded(ROW, most, events)

    def bad(self, index, events):
        with self.assertRaises(BadRecord) as caught:
            Record(ROW, 3, events)
        self.assertEqual(caught.exception.index, index)

    def test_bad_record(self):
        for events in [None, [], [EVENT], {}, 0, "", ROW, Record(ROW, 3, ()), (EVENT,) * 3001, (None,) * 3001]:
            self.bad(-1, events)
        things = [(3, ONE), (-1, ONE), (True, ONE), (None, ONE), [1, ONE], (1,), (1, ONE, 0), (ONE, 1), 1, (), ONE, "ab",
                  nested(0, 38, tuple)]
        things += [(1, thing) for thing in NO_REGISTERS + odd_things()] + odd_things()
        for thing in things:
            self.bad(0, (thing,))
            self.bad(0, (thing, thing))
            self.bad(2, (EVENT, EVENT, thing, EVENT, thing))
        for thing in odd_things():
            if not isinstance(thing, tuple):
                self.bad(-1, thing)
            elif thing != ():
                self.bad(-1 if len(thing) > 3000 else 0, thing)

    def test_many_events(self):
        events = tuple([(at % 3, (at, 0, 5, 1)) for at in range(3000)])
        record = Record(ROW, 3, events)
        self.assertEqual(len(record.events), 3000)
        self.assertEqual(registers_then(record, 3000), ((2997, 0, 5, 1), (2998, 0, 5, 1), (2999, 0, 5, 1)))
        self.bad(2999, (*events[:-1], (3, ONE)))
        self.bad(-1, (*events, EVENT))
        self.bad(-1, (*events, (3, ONE)))


class SaidTest(unittest.TestCase):
    def test_first_wrong(self):
        dice = dice_of(151)
        found = {True: 0, False: 0}
        for _ in range(500):
            world = named_world(dice, random_web(dice, dice.randrange(1, 7), more=4))
            most = dice.choice([world.web.many, 40])
            events = drawn_events(dice, world, most)
            told = first_wrong(Record(world, most, events))
            self.assertEqual(told, plain_first_wrong(world, most, events))
            found[told is None] += 1
        self.assertGreater(min(found.values()), 100)

    def test_first_wrong_by_words(self):
        self.assertIsNone(first_wrong(Record(ROW, 3, ())))
        self.assertEqual(first_wrong(Record(ROW, 3, ((0, ONE),))), (0, (9, 1, 9, 1)))
        self.assertEqual(first_wrong(Record(ROW, 3, ((1, (9, 0, 9, 1)), (0, ONE), (1, ONE)))), (1, (9, 1, 9, 1)))
        # Behind a wrong event nothing is told of it.
        self.assertEqual(first_wrong(Record(ROW, 3, ((0, (9, 1, 9, 1)), (2, (9, 1, 9, 1)), (1, (9, 0, 9, 2))))),
                         (2, (9, 0, 9, 3)))

    def test_the_ones_ahead_are_taken_as_said(self):
        """Registers of neighbours are those of that moment, which the record says, the first ones begun."""
        self.assertIsNone(first_wrong(Record(ROW, 3, ((0, (9, 1, 9, 1)), (2, (9, 1, 9, 1)), (1, (9, 0, 9, 3))))))

    def test_registers_then(self):
        dice = dice_of(152)
        for _ in range(100):
            world = named_world(dice, random_web(dice, dice.randrange(1, 7), more=4))
            events = drawn_events(dice, world, 40)
            record = Record(world, 40, events)
            for at in range(len(events) + 1):
                held = plain_begun(world)
                for house, register in events[:at]:
                    held[house] = register
                self.assertEqual(registers_then(record, at), tuple(held))
            for at in [len(events) + 1, -1, 10 ** 19]:
                with self.assertRaises(NoNumber):
                    registers_then(record, at)
        for thing in odd_things():
            with self.assertRaises(NoNumber):
                registers_then(Record(ROW, 3, (EVENT,)), thing)

    def test_recorded(self):
        dice = dice_of(153)
        for _ in range(100):
            world = named_world(dice, random_web(dice, dice.randrange(1, 7), more=4))
            most = dice.choice([world.web.many, 40])
            order = tuple([dice.randrange(world.web.many) for _ in range(dice.randrange(30))])
            record = recorded(world, most, order)
            self.assertEqual(record, Record(world, most, plain_recorded(world, most, order)))
            self.assertIsNone(first_wrong(record))
        order = drawn_order(dice, 3)
        told = registers_then(recorded(ROW, 3, order), len(order))
        self.assertEqual(told, round_behind(ROW, 3, tuple(map(begun, ROW.names)), order))

    def test_recorded_orders(self):
        self.assertEqual(recorded(ROW, 3, ()).events, ())
        self.assertEqual(len(recorded(ROW, 3, (2,) * 3000).events), 3000)
        self.assertEqual(len(recorded(big_ring(40, tuple(range(40))), 40, tuple(range(40)) * 75).events), 3000)
        for order in [(2,) * 3001, (3,), (0, 1, -1), (0, True), [0], "0", None, ((0,),), ROW]:
            with self.assertRaises(NoOrder):
                recorded(ROW, 3, order)
        for thing in odd_things():
            if thing != ():
                with self.assertRaises(NoOrder):
                    recorded(ROW, 3, thing)


class IsAlikeTest(unittest.TestCase):
    def test_drawn(self):
        dice = dice_of(154)
        found = {True: 0, False: 0}
        for _ in range(400):
            world = named_world(dice, random_web(dice, dice.randrange(1, 4)))
            cells = [(house, (k, 0, 0, 1)) for house in range(world.web.many) for k in range(2)]
            events = [dice.choice(cells) for _ in range(dice.randrange(6))]
            other = list(events)
            dice.shuffle(other)
            one, two = Record(world, 40, tuple(events)), Record(world, 40, tuple(other))
            due = all([[r for h, r in events if h == house] == [r for h, r in other if h == house]
                       for house in range(world.web.many)])
            self.assertIs(is_alike(one, two), due)
            self.assertIs(is_alike(two, one), due)
            found[due] += 1
        self.assertGreater(min(found.values()), 40)

    def test_of_the_same_world_and_most(self):
        record = Record(ROW, 3, (EVENT, (0, ONE)))
        self.assertIs(is_alike(record, record), True)
        self.assertIs(is_alike(record, Record(ROW, 3, ((0, ONE), EVENT))), True)
        others = [Record(ROW, 4, (EVENT, (0, ONE))), Record(World(row_web(3), (5, 9, 2), ()), 3, (EVENT, (0, ONE))),
                  Record(World(row_web(3), (5, 9, 1), (0,)), 3, (EVENT, (0, ONE))), Record(ROW, 3, (EVENT,)),
                  Record(World(row_web(3, (1,)), (5, 9, 2), (0,)), 3, (EVENT, (0, ONE))), Record(ROW, 3, ()),
                  Record(ROW, 3, (EVENT, (0, ONE), (0, ONE))), Record(ROW, 3, (EVENT, (2, ONE))), record.events,
                  Record(World(Web((0,), ()), (5,), ()), 3, ()), (ROW, 3, record.events)]
        for other in others + odd_things():
            self.assertIs(is_alike(record, other), False)


if __name__ == "__main__":
    unittest.main()
