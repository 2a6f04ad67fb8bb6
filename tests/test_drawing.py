"""Point 16.3: worlds and papers drawn."""

import unittest

from nearpapers.drawing import drawn
from nearpapers.errors import NoPapers
from nearpapers.webs import Web
from nearpapers.worlds import World
from tests.helper import big_ring, dice_of, named_world, nested, odd_things, plain_near, random_web, row_web

ROW = World(row_web(2, (3, 0), 77), (5, 999999), (0,))


def plain_paper(paper):
    if paper is None:
        return "-"
    if isinstance(paper, int):
        return str(paper)
    told = "("
    for at, item in enumerate(paper):
        told += ("," if at else "") + plain_paper(item)
    return told + ")"


def plain_drawn(world, papers):
    told = ""
    picked = [world.web.ties[at][:2] for at in world.picked]
    for house in range(world.web.many):
        name = "-" if world.names is None else str(world.names[house])
        told += f"{house} {name} {world.web.signs[house]} {plain_paper(papers[house])}"
        for other in plain_near(world.web, house):
            told += f" {other}" + ("*" if (min(house, other), max(house, other)) in picked else "")
        told += "\n"
    return told


class DrawnTest(unittest.TestCase):
    def test_papers(self):
        for paper, word in [(None, "-"), (0, "0"), (999999999, "999999999"), ((), "()"), ((7,), "(7)"), ((None,), "(-)"),
                            ((1, None, 2), "(1,-,2)"), (((),), "(())"), (((3,), ((4, None), ())), "((3),((4,-),()))"),
                            ((((),),), "((()))"), ((((1,),),), "(((1)))"), ((0,) * 200, "(" + ",".join("0" * 200) + ")")]:
            self.assertEqual(drawn(ROW, (paper, None)), "0 5 3 " + word + " 1*\n1 999999 0 - 0*\n")

    def test_nameless_and_alone(self):
        self.assertEqual(drawn(World(Web((2,), ()), None, ()), (4,)), "0 - 2 4\n")
        self.assertEqual(drawn(World(Web((2,), ()), (0,), ()), ((),)), "0 0 2 ()\n")
        self.assertEqual(drawn(World(row_web(3), None, (1,)), (None, 1, (2,))), "0 - 0 - 1\n1 - 0 1 0 2*\n2 - 0 (2) 1*\n")

    def test_drawn_worlds(self):
        dice = dice_of(169)
        papers = [None, 0, 12, (), (5,), (1, None), ((2, 3), (), None), (((9,),),)]
        for _ in range(200):
            web = random_web(dice, dice.randrange(1, 17), more=12, weights=1000)
            world = named_world(dice, web, dice.choice([1, 2, 5]))
            if dice.randrange(3) == 0:
                world = World(web, None, world.picked)
            row = tuple([dice.choice(papers) for _ in range(web.many)])
            self.assertEqual(drawn(world, row), plain_drawn(world, row))
        ring = big_ring(60, tuple(range(60)))
        self.assertEqual(drawn(ring, (None,) * 60), plain_drawn(ring, (None,) * 60))

    def test_no_papers(self):
        for papers in [(), (0,), (0, 0, 0), [0, 0], (0, True), (0, -1), (0, 10 ** 9), (0, "0"), (0, nested(0, 4, tuple)), (0, [0]),
                       (0, (0,) * 201), (0, ((0,) * 200,) * 11), None, "00", 5] + odd_things() + [(0, thing) for thing in odd_things()
                                                                     if thing not in ((), (None,), ((0,),), None)]:
            with self.assertRaises(NoPapers):
                drawn(ROW, papers)


if __name__ == "__main__":
    unittest.main()
