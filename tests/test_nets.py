"""Points 14.1 to 14.3: nets of houses."""

import unittest

from nearpapers.disks import Disk, row_of
from nearpapers.errors import NoDeed, NoHouse, NoNames, NoNumber, NoOrder
from nearpapers.nets import Net
from nearpapers.registers import begun, rest, round_behind, stepped
from nearpapers.webs import Web
from nearpapers.worlds import World
from tests.healing import PlainNet, drawn_order, drawn_register, plain_rest
from tests.helper import big_ring, dice_of, named_world, nested, odd_things, plain_near, random_web, row_web
from tests.test_registers import NO_REGISTERS

ROW = World(row_web(3), (5, 9, 2), (0,))
ONE = (9, 3, 2, 1)


def drawn_world(dice, most=6):
    return named_world(dice, random_web(dice, dice.randrange(1, most + 1), more=4))


def look(net):
    """All that a net shows."""
    houses = range(net.world.web.many)
    return (net.registers(), [net.heard(house) for house in houses], net.bag(),
            [(net.disk(house).blocks(), net.disk(house).synced()) for house in houses])


def plain_look(plain):
    """All that a plain net shows."""
    houses = range(plain.world.web.many)
    return (tuple([plain.regs[house] for house in houses]), [plain.heard(house) for house in houses], plain.bag,
            [(plain.safe[house] + plain.waiting[house], len(plain.safe[house])) for house in houses])


def drawn_deed(dice, plain):
    """A deed that can be done, or None."""
    world = plain.world
    house = dice.randrange(world.web.many)
    word = dice.choice(["step", "step", "post", "post", "bring", "bring", "lose", "double", "spoil", "mishear", "forge",
                        "write", "write", "sync", "cut"])
    near = plain_near(world.web, house)
    if word in ("step", "write", "sync"):
        return (word, house)
    if word in ("bring", "lose", "double"):
        return (word, dice.randrange(len(plain.bag))) if plain.bag and (word != "double" or len(plain.bag) < 30) else None
    if word == "spoil":
        return (word, house, drawn_register(dice, world, 4))
    if word == "cut":
        return (word, house, tuple([dice.choice([0, len(row), dice.randrange(len(row) + 1)])
                                    for row in plain.waiting[house]]))
    if not near:
        return None
    other = dice.choice(near)
    if word == "post":
        return (word, house, other)
    if word == "mishear":
        return (word, house, other, dice.choice([None, drawn_register(dice, world, 4)]))
    return (word, house, other, drawn_register(dice, world, 4))


def wrong_deeds(plain, dice):
    """Deeds that cannot be done now."""
    web = plain.world.web
    many, bag = web.many, len(plain.bag)
    house = dice.randrange(many)
    near = plain_near(web, house)
    far = [other for other in range(many) if other not in near]
    waiting = [len(row) for row in plain.waiting[house]]
    told = [("step", many), ("step", -1), ("step",), ("step", house, house), ("step", True), ("step", None), ["step", house],
            ("bring", bag), ("lose", bag), ("double", bag), ("bring", -1), ("bring", True), ("bring", bag + 7), ("lose", None),
            ("bring",), ("bring", 0, 0), ("post", house, many), ("post", many, house), ("post", house), ("post", house, house),
            ("spoil", house, None), ("spoil", house), ("spoil", many, ONE), ("spoil", house, list(ONE)), ("spoil", ONE, house),
            ("mishear", house, house, None), ("mishear", house, many, None), ("write", many), ("write", house, b""),
            ("write",), ("sync", many), ("sync", False), ("sync", house, ()), ("cut", many, ()), ("cut", house),
            ("cut", house, tuple(waiting) + (0,)), ("cut", house, waiting), ("cut", house, None), ("cut", house, tuple(waiting), 0),
            ("Step", house), ("", house), (), ("steps", house), (b"step", house), (0, house), ((), house), ("step", (house,)),
            ("trip", (0,)), ("copy",), (None,), ("post", (house, house)), "step", None, 0, ("at_rest",)]
    for other in far:
        told += [("post", house, other), ("mishear", house, other, ONE), ("forge", house, other, ONE), ("forge", other, house, ONE)]
    for other in near:
        told += [("forge", house, other, None), ("forge", house, other), ("mishear", house, other),
                 ("post", house, other, ONE), ("post", house, -1), ("forge", house, other, ONE, ONE)]
        told += [("forge", house, other, thing) for thing in NO_REGISTERS]
        told += [("mishear", house, other, thing) for thing in NO_REGISTERS + [False, 0]]
    told += [("spoil", house, thing) for thing in NO_REGISTERS]
    if waiting:
        told += [("cut", house, tuple(waiting[:-1])), ("cut", house, (*waiting[:-1], waiting[-1] + 1)),
                 ("cut", house, (*waiting[:-1], -1)), ("cut", house, (*waiting[:-1], True)), ("cut", house, ())]
    return told


class NetTest(unittest.TestCase):
    def test_begun(self):
        net = Net(ROW, 3)
        self.assertEqual(net.registers(), ((5, 0, 5, 1), (9, 0, 9, 1), (2, 0, 2, 1)))
        self.assertEqual([net.heard(house) for house in range(3)], [((9, None),), ((2, None), (5, None)), ((9, None),)])
        self.assertEqual(net.bag(), [])
        for house in range(3):
            self.assertIsInstance(net.disk(house), Disk)
            self.assertEqual((net.disk(house).blocks(), net.disk(house).synced()), ([], 0))
        self.assertIs(net.at_rest(), False)
        alone = Net(World(Web((0,), ()), (4,), ()), 1)
        self.assertEqual((alone.heard(0), alone.registers()), ((), ((4, 0, 4, 1),)))
        self.assertIs(alone.at_rest(), True)

    def test_errors_in_order(self):
        for most in (3, 0, None):
            with self.assertRaises(NoNames):
                Net(World(row_web(3), None, ()), most)
        for most in [2, 0, 41, -1, *odd_things()]:
            with self.assertRaises(NoNumber):
                Net(ROW, most)
        self.assertEqual(Net(big_ring(40, tuple(range(40))), 40).registers()[7], (7, 0, 7, 1))
        for most in (40, 41):
            with self.assertRaises(NoNumber):
                Net(big_ring(41, tuple(range(41))), most)

    def test_no_house(self):
        net = Net(ROW, 3)
        for house in [3, -1, 10 ** 19, *odd_things()]:
            with self.assertRaises(NoHouse):
                net.heard(house)
            with self.assertRaises(NoHouse):
                net.disk(house)

    def test_deeds_one_by_one(self):
        net = Net(ROW, 3)
        self.assertIsNone(net.deed(("post", 1, 0)))
        self.assertEqual(net.bag(), [(1, 0, (9, 0, 9, 1))])
        self.assertIsNone(net.deed(("step", 0)))
        self.assertEqual(net.registers()[0], (5, 0, 5, 1))
        net.deed(("double", 0))
        net.deed(("forge", 2, 1, ONE))
        self.assertEqual(net.bag(), [(1, 0, (9, 0, 9, 1))] * 2 + [(2, 1, ONE)])
        net.deed(("bring", 1))
        self.assertEqual((net.bag(), net.heard(0)), ([(1, 0, (9, 0, 9, 1)), (2, 1, ONE)], ((9, (9, 0, 9, 1)),)))
        net.deed(("step", 0))
        self.assertEqual(net.registers()[0], (9, 1, 9, 1))
        net.deed(("lose", 0))
        self.assertEqual(net.bag(), [(2, 1, ONE)])
        net.deed(("bring", 0))
        self.assertEqual(net.heard(1), ((2, ONE), (5, None)))
        net.deed(("spoil", 2, (7, 7, 7, 7)))
        self.assertEqual(net.registers()[2], (7, 7, 7, 7))
        net.deed(("mishear", 1, 0, ONE))
        self.assertEqual(net.heard(1), ((2, ONE), (5, ONE)))
        net.deed(("mishear", 1, 2, None))
        self.assertEqual(net.heard(1), ((2, None), (5, ONE)))

    def test_disks_and_cuts(self):
        net = Net(ROW, 3)
        net.deed(("spoil", 0, ONE))
        net.deed(("write", 0))
        self.assertEqual((net.disk(0).blocks(), net.disk(0).synced()), ([row_of(ONE)], 0))
        net.deed(("sync", 0))
        self.assertEqual(net.disk(0).synced(), 1)
        net.deed(("spoil", 0, (1, 1, 1, 1)))
        net.deed(("write", 0))
        net.deed(("mishear", 0, 1, ONE))
        other = net.copy()
        net.deed(("cut", 0, (19,)))
        self.assertEqual((net.registers()[0], net.heard(0)), (ONE, ((9, None),)))
        self.assertEqual((net.disk(0).blocks(), net.disk(0).synced()), ([row_of(ONE), row_of((1, 1, 1, 1))[:19]], 2))
        other.deed(("cut", 0, (20,)))
        self.assertEqual(other.registers()[0], (1, 1, 1, 1))
        # Nothing kept: begun again.
        other.deed(("write", 2))
        other.deed(("spoil", 2, ONE))
        other.deed(("cut", 2, (0,)))
        self.assertEqual((other.registers()[2], other.disk(2).blocks()), (begun(2), [b""]))
        other.deed(("cut", 1, ()))
        self.assertEqual(other.registers()[1], begun(9))

    def test_what_is_returned_is_new(self):
        net = Net(ROW, 3)
        net.deed(("post", 0, 1))
        before = look(net)
        net.bag().clear()
        net.bag().append(0)
        net.disk(0).write(b"abc")
        net.disk(0).sync()
        self.assertEqual(look(net), before)

    def test_long_rows_of_deeds(self):
        words = {}
        for seed in range(40):
            dice = dice_of(1400 + seed)
            world = drawn_world(dice)
            most = dice.choice([world.web.many, world.web.many + 2, 40])
            net, plain = Net(world, most), PlainNet(world, most)
            for _ in range(120):
                thing = drawn_deed(dice, plain)
                if thing is None:
                    continue
                words[thing[0]] = words.get(thing[0], 0) + 1
                self.assertIsNone(net.deed(thing))
                plain.do(thing)
                self.assertEqual(look(net), plain_look(plain))
                self.assertIs(net.at_rest(), plain_look(plain)[0] == plain_rest(world))
            if dice.randrange(2):
                order = drawn_order(dice, world.web.many)
                self.assertIsNone(net.trip(order))
                plain.trip(order)
                self.assertEqual(look(net), plain_look(plain))
        self.assertEqual(len(words), 11)
        self.assertGreater(min(words.values()), 60)

    def test_refused_deeds_change_nothing(self):
        for seed in range(12):
            dice = dice_of(1450 + seed)
            world = drawn_world(dice)
            net, plain = Net(world, 40), PlainNet(world, 40)
            for _ in range(10):
                for _ in range(6):
                    thing = drawn_deed(dice, plain)
                    if thing is not None:
                        net.deed(thing)
                        plain.do(thing)
                before = look(net)
                for thing in wrong_deeds(plain, dice):
                    with self.assertRaises(NoDeed):
                        net.deed(thing)
                    self.assertEqual(look(net), before, thing)

    def test_odd_things(self):
        net = Net(ROW, 3)
        net.deed(("post", 0, 1))
        net.deed(("write", 0))
        before = look(net)
        for thing in odd_things() + [nested("step", 40, tuple), nested("step", 35, list)]:
            for deed in [thing, (thing,), (thing, 0), ("spoil", 0, thing), ("spoil", thing, ONE),
                         ("forge", thing, 1, ONE), ("forge", 0, thing, ONE), ("forge", 0, 1, thing), ("cut", 0, thing),
                         ("post", thing, 0), ("mishear", 0, thing, None), ("write", thing), ("sync", thing), ("step", thing),
                         ("bring", thing), ("lose", thing), ("double", thing), ("step", 0, thing), ("cut", thing, ())]:
                with self.assertRaises(NoDeed):
                    net.deed(deed)
            if thing is not None:
                with self.assertRaises(NoDeed):
                    net.deed(("mishear", 0, 1, thing))
        self.assertEqual(look(net), before)

    def test_copies_go_on_apart(self):
        for seed in range(15):
            dice = dice_of(1480 + seed)
            world = drawn_world(dice)
            pairs = [(Net(world, 40), PlainNet(world, 40))]
            for step in range(150):
                net, plain = dice.choice(pairs)
                if dice.randrange(25) == 0 and len(pairs) < 5:
                    twin = PlainNet(world, 40)
                    twin.regs, twin.ears, twin.bag = dict(plain.regs), dict(plain.ears), list(plain.bag)
                    twin.safe, twin.waiting = dict(plain.safe), dict(plain.waiting)
                    pairs.append((net.copy(), twin))
                    continue
                thing = drawn_deed(dice, plain)
                if thing is not None:
                    net.deed(thing)
                    plain.do(thing)
                if step % 10 == 0:
                    for one, other in pairs:
                        self.assertEqual(look(one), plain_look(other))

    def test_a_step_is_stepped(self):
        dice = dice_of(149)
        for _ in range(30):
            world = drawn_world(dice)
            net, plain = Net(world, 40), PlainNet(world, 40)
            for _ in range(20):
                thing = drawn_deed(dice, plain)
                if thing is not None:
                    net.deed(thing)
                    plain.do(thing)
            house = dice.randrange(world.web.many)
            due = stepped(world.names[house], 40, net.heard(house))
            net.deed(("step", house))
            self.assertEqual(net.registers()[house], due)


class TripTest(unittest.TestCase):
    def test_letters_under_way_are_lost(self):
        net = Net(ROW, 3)
        net.deed(("forge", 1, 0, (999, 0, 9, 1)))
        net.deed(("mishear", 2, 1, ONE))
        net.trip((0, 1, 2))
        self.assertEqual(net.bag(), [])
        self.assertEqual([net.heard(house) for house in range(3)],
                         [((9, (9, 0, 9, 1)),), ((2, (2, 0, 2, 1)), (5, (5, 0, 5, 1))), ((9, (9, 0, 9, 1)),)])
        self.assertEqual(net.registers(), ((9, 1, 9, 1), (9, 0, 9, 1), (9, 1, 9, 1)))

    def test_steps_of_what_was_posted(self):
        """Unlike a round of 12.2, houses step by what was posted, also those that step late."""
        net = Net(World(row_web(3), (1, 2, 3), ()), 3)
        net.trip((2, 1, 0))
        self.assertEqual(net.registers(), ((2, 1, 2, 1), (3, 1, 3, 1), (3, 0, 3, 1)))
        self.assertEqual(round_behind(net.world, 3, tuple(map(begun, (1, 2, 3))), (2, 1, 0)),
                         ((3, 2, 2, 1), (3, 1, 3, 1), (3, 0, 3, 1)))

    def test_no_order(self):
        net = Net(ROW, 3)
        net.deed(("post", 0, 1))
        before = look(net)
        for order in [(0, 1), (0, 1, 3), [0, 1, 2], (0, 1, 2) * 21, (), (0, 1, 2, True), None, *odd_things()]:
            with self.assertRaises(NoOrder):
                net.trip(order)
            self.assertEqual(look(net), before)
        net.trip((0, 1, 2) * 20)

    def test_disks_are_left(self):
        net = Net(ROW, 3)
        net.deed(("write", 1))
        net.trip((0, 1, 2))
        self.assertEqual((net.disk(1).blocks(), net.disk(1).synced()), ([row_of((9, 0, 9, 1))], 0))

    def test_the_tenth_fact(self):
        for seed in range(60):
            dice = dice_of(1500 + seed)
            world = drawn_world(dice)
            many = world.web.many
            most = dice.choice([many, many + 1, many + 4])
            net, plain = Net(world, most), PlainNet(world, most)
            for _ in range(60):
                thing = drawn_deed(dice, plain)
                if thing is not None:
                    net.deed(thing)
                    plain.do(thing)
            for _ in range(most + 2 * many):
                net.trip(drawn_order(dice, many))
            self.assertIs(net.at_rest(), True)
            self.assertEqual(net.registers(), rest(world))
            for _ in range(3):
                net.trip(drawn_order(dice, many))
                self.assertIs(net.at_rest(), True)

    def test_the_tenth_fact_in_great_rings(self):
        dice = dice_of(1599)
        world = big_ring(24, tuple(dice.sample(range(1000000), 24)))
        net = Net(world, 24)
        for house in range(24):
            net.deed(("spoil", house, (999999, 0, world.names[house], 999)))
        for _ in range(72):
            net.trip(drawn_order(dice, 24))
        self.assertIs(net.at_rest(), True)


if __name__ == "__main__":
    unittest.main()
