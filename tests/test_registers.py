"""Points 12.1 to 12.3: registers that come to rest."""

import itertools
import unittest

from nearpapers.claimrules import claim_rule
from nearpapers.covers import cover
from nearpapers.errors import BadOrders, NoHeard, NoName, NoNames, NoNumber, NoOrder, NoRegisters
from nearpapers.registers import begun, rest, round_behind, rounds_of, stepped
from nearpapers.rules import rule_judge
from nearpapers.webs import Web
from nearpapers.worlds import World, all_yes, says
from tests.claimwords import plain_says
from tests.healing import drawn_order, drawn_registers, plain_heard, plain_rest, plain_round
from tests.healing import plain_stepped
from tests.helper import big_ring, dice_of, named_world, odd_things, random_web, ring_web, row_web

ROW = World(row_web(3), (5, 9, 2), (0,))
GOOD = ((5, 0, 5, 1), (9, 0, 9, 1), (2, 0, 2, 1))
NAMELESS = World(row_web(3), None, ())
NO_REGISTERS = [(), (1, 0, 1), (1, 0, 1, 1, 0), [1, 0, 1, 1], (1000000, 0, 1, 1), (1, 1000, 1, 1), (1, 0, 1000000, 1),
                (1, 0, 1, 1000), (-1, 0, 1, 1), (1, -1, 1, 1), (1, 0, -1, 1), (1, 0, 1, -1), (True, 0, 1, 1),
                (1, False, 1, 1), (1, 0, 1, True), (1, 0, None, 1), ((1, 0, 1, 1),), (1, 0, 1, 10 ** 19), b"abcd", "1011"]


class BegunTest(unittest.TestCase):
    def test_begun(self):
        for name in (0, 7, 999999):
            self.assertEqual(begun(name), (name, 0, name, 1))

    def test_no_name(self):
        for name in [1000000, -1, 10 ** 19, *odd_things()]:
            with self.assertRaises(NoName):
                begun(name)


class SteppedTest(unittest.TestCase):
    def test_by_words(self):
        for name, most, heard, told in [
                (5, 10, (), (5, 0, 5, 1)), (5, 10, ((7, None),), (5, 0, 5, 1)), (5, 10, ((7, (7, 0, 7, 1)),), (7, 1, 7, 1)),
                (5, 1, ((7, (7, 0, 7, 1)),), (5, 0, 5, 1)), (5, 2, ((7, (7, 0, 7, 1)),), (7, 1, 7, 1)),
                (5, 2, ((7, (7, 1, 7, 1)),), (5, 0, 5, 1)), (5, 3, ((7, (7, 1, 7, 1)),), (7, 2, 7, 1)),
                (5, 40, ((7, (7, 38, 7, 1)),), (7, 39, 7, 1)), (5, 40, ((7, (7, 39, 7, 1)),), (5, 0, 5, 1)),
                # the greatest root, then the least far, then the least up
                (5, 10, ((3, (8, 4, 3, 1)), (7, (8, 2, 7, 1))), (8, 3, 7, 1)),
                (5, 10, ((3, (8, 2, 3, 1)), (7, (8, 2, 7, 1))), (8, 3, 3, 1)),
                (5, 10, ((3, (9, 8, 3, 1)), (7, (8, 0, 7, 1))), (9, 9, 3, 1)),
                (5, 10, ((3, (9, 9, 3, 1)), (7, (8, 0, 7, 1))), (8, 1, 7, 1)),
                # the own root goes ahead of the same root further off
                (5, 10, ((3, (5, 0, 3, 1)),), (5, 0, 5, 1)), (5, 10, ((3, (4, 0, 3, 1)),), (5, 0, 5, 1)),
                # beneath: the same root, the own name as up, just one further
                (5, 10, ((3, (5, 1, 5, 4)),), (5, 0, 5, 5)), (5, 10, ((3, (5, 2, 5, 4)),), (5, 0, 5, 1)),
                (5, 10, ((3, (5, 1, 6, 4)),), (5, 0, 5, 1)), (5, 10, ((3, (4, 1, 5, 4)),), (5, 0, 5, 1)),
                (5, 10, ((3, (5, 1, 5, 4)), (4, (5, 1, 5, 5))), (5, 0, 5, 10)),
                (5, 10, ((3, (5, 1, 5, 4)), (4, (5, 1, 5, 6))), (5, 0, 5, 10)),
                (5, 10, ((3, (5, 1, 5, 999)),), (5, 0, 5, 10)), (5, 1, ((3, (5, 1, 5, 999)),), (5, 0, 5, 1)),
                (5, 10, ((3, (5, 1, 5, 0)), (7, None)), (5, 0, 5, 1)),
                (5, 10, ((3, (7, 2, 5, 3)), (7, (7, 0, 7, 9))), (7, 1, 7, 4)),
                (5, 10, ((3, (7, 1, 5, 3)), (7, (7, 0, 7, 9))), (7, 1, 7, 1)),
                (0, 1, (), (0, 0, 0, 1)), (999999, 40, (), (999999, 0, 999999, 1))]:
            self.assertEqual(stepped(name, most, heard), told)
            self.assertEqual(plain_stepped(name, most, heard), told)

    def test_drawn(self):
        dice = dice_of(121)
        for _ in range(3000):
            name = dice.randrange(8)
            others = sorted(dice.sample([k for k in range(9) if k != name], dice.randrange(6)))
            most = dice.choice([1, 2, 3, 6, 40])
            heard = tuple([(other, None if dice.randrange(6) == 0 else (
                dice.randrange(9), dice.randrange(4), dice.choice([name, other, dice.randrange(9)]), dice.randrange(5)))
                for other in others])
            self.assertEqual(stepped(name, most, heard), plain_stepped(name, most, heard))

    def test_errors_in_order(self):
        for name in [1000000, -1, *odd_things()]:
            for most, heard in [(3, ()), (0, ()), (None, None)]:
                with self.assertRaises(NoName):
                    stepped(name, most, heard)
        for most in [0, 41, -1, 10 ** 19, *odd_things()]:
            for heard in [(), None]:
                with self.assertRaises(NoNumber):
                    stepped(5, most, heard)
        self.assertEqual((stepped(5, 1, ()), stepped(5, 40, ())), ((5, 0, 5, 1), (5, 0, 5, 1)))

    def test_no_heard(self):
        bad = [((5, None),), ((3, None), (5, (1, 0, 1, 1))), ((3, None), (3, None)), ((4, None), (3, None)), (3, None), [],
               [(3, None)], ([3, None],), ((3,),), ((3, None, None),), ((1000000, None),), ((-1, None),), ((True, None),),
               ((3, 0),), ((3, ()),), ((None, None),), (("3", None),), ((3, False),), 0, None, ((3, None), None)]
        bad += [thing for thing in odd_things() if thing != ()]
        bad += [((3, thing),) for thing in NO_REGISTERS] + [((3, thing),) for thing in odd_things() if thing is not None]
        for heard in bad:
            with self.assertRaises(NoHeard):
                stepped(5, 4, heard)
        for heard in [((0, None), (999999, None)), ((3, (999999, 999, 999999, 999)),), ((3, (0, 0, 0, 0)),)]:
            self.assertEqual(stepped(5, 4, heard), plain_stepped(5, 4, heard))


def drawn_world(dice, most=8):
    return named_world(dice, random_web(dice, dice.randrange(1, most + 1), more=5))


class RoundTest(unittest.TestCase):
    def test_own_stepping(self):
        dice = dice_of(122)
        for _ in range(300):
            world = drawn_world(dice)
            most = dice.choice([world.web.many, min(40, world.web.many + 2), 40])
            registers = drawn_registers(dice, world)
            order = drawn_order(dice, world.web.many)
            self.assertEqual(round_behind(world, most, registers, order), plain_round(world, most, registers, order))

    def test_a_house_that_steps_twice(self):
        told = round_behind(ROW, 3, GOOD, (0, 1, 2, 1))
        self.assertEqual(told, ((9, 1, 9, 1), (9, 0, 9, 3), (9, 1, 9, 1)))
        self.assertEqual(round_behind(ROW, 3, GOOD, (1, 0, 2)), ((9, 1, 9, 1), (9, 0, 9, 1), (9, 1, 9, 1)))

    def test_lengths_of_orders(self):
        order = (0, 1, 2) * 20
        self.assertEqual(round_behind(ROW, 40, GOOD, order), rest(ROW))
        with self.assertRaises(NoOrder):
            round_behind(ROW, 40, GOOD, (*order, 0))
        big = big_ring(40, tuple(range(40)))
        registers = tuple([begun(name) for name in range(40)])
        self.assertEqual(round_behind(big, 40, registers, (*range(40), *range(20))),
                         plain_round(big, 40, registers, (*range(40), *range(20))))

    def test_errors_in_order(self):
        for most in (3, None, 0):
            with self.assertRaises(NoNames):
                round_behind(NAMELESS, most, None, None)
            with self.assertRaises(NoNames):
                rounds_of(NAMELESS, most, None, None)
        for most in [2, 0, 41, -1, *odd_things()]:
            for registers in [GOOD, None]:
                with self.assertRaises(NoNumber):
                    round_behind(ROW, most, registers, None)
                with self.assertRaises(NoNumber):
                    rounds_of(ROW, most, registers, None)
        for registers in [GOOD[:2], (*GOOD, GOOD[0]), list(GOOD), (), *odd_things(), GOOD[0],
                          *[(*GOOD[:2], thing) for thing in [*NO_REGISTERS, *odd_things()]]]:
            for order in [(0, 1, 2), None]:
                with self.assertRaises(NoRegisters):
                    round_behind(ROW, 3, registers, order)
                with self.assertRaises(NoRegisters):
                    rounds_of(ROW, 3, registers, order)
        for order in [(0, 1), (0, 1, 3), [0, 1, 2], (0, 1, 2, -1), (0, True, 2, 1), (), ((0, 1, 2),), "012", *odd_things()]:
            with self.assertRaises(NoOrder):
                round_behind(ROW, 3, GOOD, order)

    def test_most_of_big_worlds(self):
        ring = big_ring(41, tuple(range(41)))
        registers = tuple([begun(name) for name in range(41)])
        for most in (40, 41):
            with self.assertRaises(NoNumber):
                round_behind(ring, most, registers, tuple(range(41)))
        ring = big_ring(40, tuple(range(40)))
        with self.assertRaises(NoNumber):
            round_behind(ring, 39, registers[:40], tuple(range(40)))


class RestTest(unittest.TestCase):
    def test_by_words(self):
        self.assertEqual(rest(World(Web((0,), ()), (7,), ())), ((7, 0, 7, 1),))
        diamond = World(Web((0, 1, 2, 3), ((0, 1, 0), (0, 2, 0), (1, 3, 0), (2, 3, 0))), (10, 6, 4, 1), ())
        self.assertEqual(rest(diamond), ((10, 0, 10, 4), (10, 1, 10, 1), (10, 1, 10, 2), (10, 2, 4, 1)))

    def test_drawn(self):
        dice = dice_of(123)
        for _ in range(200):
            world = drawn_world(dice, 12)
            self.assertEqual(rest(world), plain_rest(world))
        for many in (16, 40, 60):
            names = tuple(dice.sample(range(1000000), many))
            self.assertEqual(rest(big_ring(many, names)), plain_rest(big_ring(many, names)))

    def test_great_worlds(self):
        web = ring_web((0,) * 16)
        for _ in range(4):
            web, _ = cover(web, 4, ((1, 2, 3, 0),) + ((0, 1, 2, 3),) * (len(web.ties) - 1))
        self.assertEqual(web.many, 4096)
        world = World(web, tuple(range(4096)), ())
        told = rest(world)
        self.assertEqual(told[4095], (4095, 0, 4095, 4096))
        self.assertEqual(max([row[1] for row in told]), 2048)

    def test_no_names(self):
        with self.assertRaises(NoNames):
            rest(NAMELESS)

    def test_rest_stays(self):
        dice = dice_of(124)
        for _ in range(100):
            world = drawn_world(dice)
            many = world.web.many
            for most in (many, many + 1, 40):
                self.assertEqual(round_behind(world, most, rest(world), drawn_order(dice, many)), rest(world))

    def test_the_eighth_fact(self):
        dice = dice_of(125)
        for _ in range(250):
            world = drawn_world(dice, 7)
            many = world.web.many
            most = dice.choice([many, many + 1, many + 3])
            held = drawn_registers(dice, world)
            orders = [drawn_order(dice, many) for _ in range(most + 2 * many)]
            for order in orders:
                held = round_behind(world, most, held, order)
            self.assertEqual(held, rest(world))
            self.assertEqual(round_behind(world, most, held, orders[0]), rest(world))

    def test_the_eighth_fact_with_a_root_that_is_nowhere(self):
        """All hold one root that no house has: it grows old, round by round."""
        for many, most in [(1, 1), (2, 2), (3, 5), (5, 5), (4, 40), (8, 20)]:
            world = World(row_web(many), tuple(range(many)), ())
            held = tuple([(999999, 0, house, 999) for house in range(many)])
            orders = (tuple(range(many)),) * min(200, most + 2 * many)
            told = rounds_of(world, most, held, orders)
            self.assertIsNotNone(told)
            self.assertLessEqual(told, most + 2 * many)


class NinthFactTest(unittest.TestCase):
    def test_rest_is_shown(self):
        dice = dice_of(126)
        for _ in range(60):
            world = drawn_world(dice, 9)
            many = world.web.many
            self.assertEqual(says(world, rest(world), rule_judge(claim_rule(("many", many)))), (True,) * many)
            for other in {1, many - 1, many + 1, 100} - {0, many}:
                self.assertFalse(all_yes(world, rest(world), rule_judge(claim_rule(("many", other)))))
        for many in (17, 41, 99, 100):
            world = big_ring(many, tuple(dice.sample(range(1000000), many)))
            self.assertTrue(all_yes(world, rest(world), rule_judge(claim_rule(("many", many)))))

    def test_whatever_registers_of_two_houses(self):
        world = World(row_web(2), (0, 1), ())
        cells = list(itertools.product((0, 1, 2), (0, 1, 2), (0, 1, 2), range(5)))
        self.yes_only_for(world, [(one, other) for one in cells for other in cells if one[0] == other[0]], 2)

    def test_whatever_registers_of_three_houses(self):
        for web, names in [(row_web(3), (0, 1, 2)), (row_web(3), (1, 0, 2)), (ring_web((0, 0, 0)), (0, 1, 2))]:
            world = World(web, names, ())
            for root in range(3):
                cells = list(itertools.product((root,), range(3), range(3), range(1, 4)))
                self.yes_only_for(world, itertools.product(cells, repeat=3), 3)

    def yes_only_for(self, world, rows, many):
        near = [[other for a, b, _ in world.web.ties for other in ((b,) if a == house else (a,) if b == house else ())]
                for house in range(many)]
        found = 0
        for registers in rows:
            views = [((world.names[k], 0, registers[k]), [(world.names[n], 0, False, 0, registers[n]) for n in near[k]])
                     for k in range(many)]
            # The root alone is asked for the number; all else is the same for each.
            for number in range(1, many + 3):
                if all(plain_says(("many", number), seen) for seen in views):
                    self.assertEqual(number, many)
                    self.assertTrue(all_yes(world, registers, rule_judge(claim_rule(("many", number)))))
                    found += 1
        self.assertGreater(found, 0)

    def test_drawn_registers(self):
        dice = dice_of(127)
        for _ in range(150):
            world = drawn_world(dice, 6)
            many = world.web.many
            registers = list(rest(world))
            for _ in range(dice.randrange(1, 3)):
                house = dice.randrange(many)
                row = list(registers[house])
                at = dice.randrange(4)
                row[at] = dice.choice([row[at] + 1, max(0, row[at] - 1), dice.choice(world.names) if at in (0, 2) else 0])
                registers[house] = tuple(row)
            for number in range(1, many + 3):
                if all_yes(world, tuple(registers), rule_judge(claim_rule(("many", number)))):
                    self.assertEqual(number, many)


class RoundsOfTest(unittest.TestCase):
    def test_own_counting(self):
        dice = dice_of(128)
        counts = {}
        for _ in range(300):
            world = drawn_world(dice, 6)
            many = world.web.many
            most = dice.choice([many, many + 2])
            registers = dice.choice([rest(world), drawn_registers(dice, world), drawn_registers(dice, world, 1),
                                     tuple([begun(name) for name in world.names])])
            orders = tuple([drawn_order(dice, many) for _ in range(dice.randrange(6))])
            held, due = registers, None
            rows = [held]
            for order in orders:
                held = plain_round(world, most, held, order)
                rows.append(held)
            for at in reversed(range(len(rows))):
                if rows[at] == plain_rest(world):
                    due = at
            told = rounds_of(world, most, registers, orders)
            self.assertEqual(told, due)
            counts[told] = counts.get(told, 0) + 1
        for told in (None, 0, 1, 2):
            self.assertGreater(counts[told], 10)

    def test_at_rest_at_first(self):
        self.assertEqual(rounds_of(ROW, 3, rest(ROW), ()), 0)
        self.assertEqual(rounds_of(ROW, 3, rest(ROW), ((0, 1, 2),)), 0)
        self.assertIsNone(rounds_of(ROW, 3, GOOD, ()))

    def test_the_last_round_counts(self):
        self.assertEqual(rounds_of(ROW, 3, GOOD, ((1, 0, 2), (1, 0, 2))), 2)
        self.assertIsNone(rounds_of(ROW, 3, GOOD, ((1, 0, 2),)))

    def test_bad_orders(self):
        good = (0, 1, 2)
        for orders in [None, [], [good], {}, 0, "", 3, (good,) * 201, (None,) * 201]:
            self.bad(-1, orders)
        for thing in [(0, 1), (0, 1, 3), [0, 1, 2], (0, 1, 2) * 21, (), (0, 1, True, 2), *odd_things()]:
            self.bad(0, (thing,))
            self.bad(0, (thing, thing, good))
            self.bad(2, (good, good, thing, good, thing))
            # Also where they are at rest at first.
            with self.assertRaises(BadOrders):
                rounds_of(ROW, 3, rest(ROW), (good, thing))
        for thing in odd_things():
            if not isinstance(thing, tuple):
                self.bad(-1, thing)
            elif thing != ():
                self.bad(-1 if len(thing) > 200 else 0, thing)
        self.assertEqual(rounds_of(ROW, 3, GOOD, (good,) * 200), 2)
        self.bad(199, (good,) * 199 + ((0,),))

    def bad(self, index, orders):
        with self.assertRaises(BadOrders) as caught:
            rounds_of(ROW, 3, GOOD, orders)
        self.assertEqual(caught.exception.index, index)

    def test_what_is_heard_is_what_neighbours_hold(self):
        """One step of a round is stepped of what the neighbours hold."""
        dice = dice_of(129)
        for _ in range(60):
            world = drawn_world(dice, 6)
            held = list(drawn_registers(dice, world))
            order = drawn_order(dice, world.web.many)
            told = round_behind(world, 40, tuple(held), order)
            for house in order:
                held[house] = stepped(world.names[house], 40, plain_heard(world, held, house))
            self.assertEqual(told, tuple(held))


if __name__ == "__main__":
    unittest.main()
