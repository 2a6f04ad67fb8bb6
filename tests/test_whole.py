"""Points 0.1 to 0.5 over the whole program: the same twice, nothing changed, nothing too deep; claims by all doors."""

import sys
import unittest

from nearpapers.books import Book, book_judge
from nearpapers.branches import alike, first_known, known, least, matching, parting, unlike_kinds
from nearpapers.claimpapers import papers_for
from nearpapers.claimrules import claim_rule
from nearpapers.claims import digits_of, is_true
from nearpapers.covers import cover, laid_over, lifted
from nearpapers.desks import Desk
from nearpapers.disks import Disk, kept_register, mark, register_of, row_of
from nearpapers.drawing import drawn
from nearpapers.errors import NearError, NotTrue
from nearpapers.exchange import book_of, knower_of, run_marks, same_shown, shows
from nearpapers.forms import form, tree_of, trees
from nearpapers.gluing import enough, fooled, four_ring, glued, is_fooling, shortest
from nearpapers.halves import crossed, dice_judge, dice_papers, error, halves, is_crossing
from nearpapers.joining import both, either, turned
from nearpapers.knowers import branch_kind, knows
from nearpapers.maps import map_judge, map_paper
from nearpapers.marking import is_marked, many_marked, marked
from nearpapers.nets import Net
from nearpapers.records import Record, first_wrong, is_alike, recorded, registers_then
from nearpapers.registers import begun, rest, round_behind, rounds_of, stepped
from nearpapers.rings import ring_counts
from nearpapers.rules import Rule, rule_judge
from nearpapers.saidtrees import knower_for, saying_of
from nearpapers.sayings import Saying, holds
from nearpapers.sayingtexts import read_rule, read_saying, rule_text, saying_text
from nearpapers.texts import book_text, read_book, read_web, web_text
from nearpapers.webs import Web, big_web, distances, kind, neighbours, renumbered, slim
from nearpapers.worlds import World, all_yes, says, view
from tests.claimwords import CLAIMS, plain_says, plain_true
from tests.helper import (E, big_ring, colours, dice_of, houses_modulo, knows_all, named_world, odd_things, random_book,
                          random_web, remainder, ring_web, row_web)

YES = lambda seen: True
W = Web((0, 1, 0), ((0, 1, 0), (1, 2, 0)))
V = World(W, (5, 9, 2), (0,))
GOOD = ((5, 0, 5, 1), (9, 0, 9, 1), (2, 0, 2, 1))
ONE_IS = Saying(("some", "x", ("sign", "x", 1)))
RULE = Rule(1, ("each", ("not", ("same", ("own", 0), ("its", 0)))))
RING = ring_web((1, 0, 0))
TEXTS = ["", "web 0\n", "book 1 1\n", "yes", "0 yes", "web 0", None, 7, "not " * 3000 + "yes", "web 0\n" * 2000, b"yes",
         "0 " + "not " * 3000 + "yes", "both " * 3000, "\n" * 20000, " " * 20000, ":" * 500, "some x " * 2800 + "yes"]


def all_calls():
    """One call at least of each function of the interface, most of ones that return."""
    book, knower = colours(2, 2), remainder(2, 3, 0)
    record = recorded(V, 3, (0, 1, 2, 1))
    maker = lambda world: (0,) * world.web.many
    blocks = [row_of(GOOD[0]), b"abc"]
    return [
        (Web, (0, 1), ((0, 1, 5),)), (neighbours, W, 1), (distances, W, 0), (kind, RING), (slim, W), (renumbered, W, (2, 0, 1)),
        (form, W), (trees, 2, 4), (tree_of, (0, ((1, ()), (1, ())))), (cover, RING, 3, ((0, 1, 2), (1, 2, 0), (2, 1, 0))),
        (lifted, (0, 1, 2), (2, 1, 0, 0)), (laid_over, YES, (0, 1, 2), (0, 0, 0), 3), (World, W, (5, 9, 2), (0,)),
        (view, V, (None, 3, None), 1), (says, V, (0, 1, 0), lambda seen: seen[0][2] == 0), (all_yes, V, (0, 1, 0), YES),
        (Book, 1, 1, ((0, 0, ()),)), (marked, book, W), (is_marked, book, W, (0, 1, 0)), (many_marked, book, W), (ring_counts, book, 9),
        (branch_kind, knower, W, 0, 1), (knows, knower, W), (turned, knower), (both, knower, houses_modulo(2, 2, 1)),
        (either, knower, knows_all(2)), (parting, knower, knows_all(2)), (alike, knower, knower), (first_known, knower),
        (least, knower), (unlike_kinds, knower), (known, knower, 4), (matching, knower, knower), (knower_of, book), (book_of, E),
        (run_marks, remainder(2, 2, 1), W, 1), (shows, book, knower), (same_shown, book, random_book(dice_of(1), 2, 2, 30)),
        (Saying, ("yes",)), (holds, ONE_IS, W), (knower_for, ONE_IS, 3), (saying_of, book), (Rule, 0, ("yes",)),
        (is_true, ("leader",), V), (digits_of, (1, (2, 3))), (papers_for, ("leader",), V), (claim_rule, ("least",)), (map_paper, V),
        (four_ring, 3, 4), (glued, 1, 2, 3, 4), (fooled, YES, maker, (0, 1)), (fooled, YES, lambda world: world.names, (0, 1)),
        (is_fooling, YES, maker, (0,), ("fooled", glued(1, 2, 3, 4), (0,) * 8)), (enough, 3), (shortest, 10 ** 9),
        (halves, (0, 1), (1, 1)), (crossed, YES, maker, (0,), 3), (is_crossing, YES, maker, (0,), 3, None),
        (dice_papers, (0, 1), (1, 1), 7, 3), (error, (0, 1, 1), (1, 1, 0), 5), (begun, 4), (stepped, 5, 9, ((7, GOOD[1]),)),
        (round_behind, V, 3, GOOD, (0, 1, 2)), (rest, V), (rounds_of, V, 3, GOOD, ((1, 0, 2), (1, 0, 2))), (row_of, GOOD[0]),
        (mark, b"abc" * 900), (register_of, row_of(GOOD[2])), (kept_register, blocks), (Record, V, 3, ((0, GOOD[0]),)),
        (first_wrong, Record(V, 3, ((0, GOOD[0]),))), (registers_then, record, 2), (recorded, V, 3, (2, 1, 0)), (is_alike, record, record),
        (web_text, W), (book_text, book), (read_web, web_text(RING)), (read_book, book_text(book)), (saying_text, ONE_IS),
        (rule_text, RULE), (read_saying, saying_text(ONE_IS)), (read_rule, rule_text(RULE)), (drawn, V, ((1, None), None, 3)),
        *[(call, text) for call in (read_web, read_book, read_saying, read_rule) for text in TEXTS]]


def what_comes(row):
    """What a call returns, or the error that it raises, comparable."""
    try:
        return row[0](*row[1:])
    except NearError as caught:
        return (type(caught).__name__, vars(caught))


class WholeTest(unittest.TestCase):
    def test_equal_calls_give_equal_answers(self):
        for one, other in zip(all_calls(), all_calls()):
            self.assertEqual(what_comes(one), what_comes(other), one[0])
            self.assertEqual(what_comes(one), what_comes(one))

    def test_judges_tell_the_same(self):
        for made in [lambda: book_judge(colours(2, 2)), lambda: rule_judge(RULE), lambda: dice_judge(5, 2),
                     lambda: map_judge(lambda world: world.web.many == 3)]:
            judge = made()
            papers = (map_paper(V),) * 3
            for row in [(0, 1, 0), ((0,), (1,), (0,)), papers, dice_papers((1,), (1,), 5, 2) + (None,)]:
                self.assertEqual(says(V, row, judge), says(V, row, made()))
                self.assertEqual(says(V, row, judge), says(V, row, judge))

    def test_what_is_passed_stays(self):
        blocks = [row_of(GOOD[0]), b"", b"abc"]
        kept_register(blocks)
        self.assertEqual(blocks, [row_of(GOOD[0]), b"", b"abc"])
        for row in all_calls():
            before = [vars(thing).copy() if isinstance(thing, (Web, World, Book, Saying, Rule, Record)) else repr(thing)
                      for thing in row[1:]]
            what_comes(row)
            self.assertEqual([vars(thing) if isinstance(thing, (Web, World, Book, Saying, Rule, Record)) else repr(thing)
                              for thing in row[1:]], before)

    def test_lists_that_are_told_are_new(self):
        net, disk = Net(V, 3), Disk()
        net.deed(("post", 0, 1))
        disk.write(b"a")
        for told in (net.bag, disk.blocks):
            first = told()
            first.append(None)
            first[0] = 7
            self.assertEqual(len(told()), 1)
            self.assertNotEqual(told()[0], 7)

    def test_nothing_goes_deep(self):
        """With a few hundred calls left all goes through, also texts and forms that are long and deep."""
        calls = all_calls()
        long = big_web((0,) * 60, tuple([(k, k + 1, 0) for k in range(59)]))
        calls += [(form, long), (tree_of, form(long)), (tree_of, nested_form(5000)), (knows, knows_all(1), long),
                  (Saying, nested_not(5000)), (Rule, 0, nested_not(5000)), (rule_text, claim_rule(("least",))),
                  (saying_text, saying_of(random_book(dice_of(5), 2, 4, 20))), (drawn, big_ring(300, tuple(range(300))), (None,) * 300),
                  (rest, big_ring(2000, tuple(range(2000)))), (web_text, big_ring(2000, tuple(range(2000))).web),
                  (distances, big_ring(2000, None).web, 7), (marked, colours(1, 2), big_ring(2000, None).web)]
        limit = sys.getrecursionlimit()
        sys.setrecursionlimit(self.depth() + 330)
        try:
            for row in calls:
                what_comes(row)
        finally:
            sys.setrecursionlimit(limit)

    def depth(self):
        frame, told = sys._getframe(), 0
        while frame is not None:
            frame, told = frame.f_back, told + 1
        return told

    def test_objects_are_equal_to_nothing_else(self):
        things = [W, V, colours(1, 2), E, ONE_IS, RULE, recorded(V, 3, (0,)), Disk(), Net(V, 3), Desk()]
        for at, one in enumerate(things):
            self.assertTrue(one == one)
            self.assertFalse(one != one)
            for other in things[:at] + things[at + 1:] + [0, (), "web", None, vars(one)]:
                self.assertFalse(one == other)
                self.assertTrue(one != other)

    def test_a_call_that_raises_changes_nothing(self):
        net, desk, disk = Net(V, 3), Desk(), Disk()
        disk.write(b"abc")
        desk.tell("web a web 0|")
        net.deed(("write", 0))
        for thing in odd_things():
            for call in [net.deed, net.trip, net.heard, net.disk, desk.tell, disk.cut]:
                with self.assertRaises(NearError):
                    call(thing)
        self.assertEqual((net.registers(), net.bag(), net.disk(0).blocks()), (GOOD, [], [row_of(GOOD[0])]))
        self.assertEqual((desk.undoable(), desk.tell("names web"), disk.blocks(), disk.synced()), (1, "a", [b"abc"], 0))

    def test_what_was_returned_may_be_passed_on(self):
        web, below = cover(ring_web((0, 1, 2)), 4, ((1, 2, 3, 0), (0, 1, 2, 3), (0, 1, 2, 3)))
        web, below = cover(web, 4, ((1, 2, 3, 0),) + ((0, 1, 2, 3),) * 11)
        world = World(web, tuple(range(48)), (0, 5))
        self.assertEqual(web.many, 48)
        self.assertEqual(kind(web), "ring")
        self.assertEqual(len(drawn(world, (None,) * 48).split("\n")), 49)
        self.assertTrue(all_yes(world, rest(world), rule_judge(claim_rule(("many", 48)))))
        self.assertEqual(says(world, lifted((0,) * 12, below), book_judge(colours(3, 1))), (False,) * 48)
        told = fooled(YES, lambda seen: (1,) * 4, (0, 1))
        self.assertEqual(rest(told[1])[0][0], max(told[1].names))
        self.assertEqual(papers_for(("sides",), told[1]), ((0,), (1,)) * 4)
        self.assertEqual(Net(told[1], 8).registers()[0], begun(told[1].names[0]))
        for text in [book_text(book_of(E)), web_text(tree_of(first_known(E)))]:
            self.assertIn(" ", text)


def nested_form(many):
    """The form of so many houses in a row, hung up at an end."""
    told = (0, ())
    for _ in range(many - 1):
        told = (0, (told,))
    return told


def nested_not(many):
    told = ("yes",)
    for _ in range(many):
        told = ("not", told)
    return told


class DoorsTest(unittest.TestCase):
    def worlds(self):
        """Small worlds of which some claims are true and others are not."""
        dice = dice_of(171)
        told = []
        for _ in range(60):
            web = random_web(dice, dice.randrange(1, 6), signs=3, more=3, weights=3)
            told.append(named_world(dice, web, dice.choice([1, 2, 3])))
        for many in (3, 4, 5):
            web = ring_web((1,) + (0,) * (many - 1))
            told += [World(web, tuple(range(many)), tuple(range(many))), World(web, tuple(range(7, 7 + many)), (0,))]
        rows = [row_web(many, (1, 2, 0)) for many in (1, 2, 4, 5)]
        return told + [World(web, tuple(range(web.many)), tuple(range(len(web.ties)))) for web in rows]

    def test_all_doors_agree(self):
        found = {}
        for world in self.worlds():
            many = world.web.many
            for claim in [*CLAIMS, ("many", many), ("many", many + 1), ("many", max(1, many - 1))]:
                true = plain_true(claim, world)
                self.assertIs(is_true(claim, world), true)
                judges = [rule_judge(claim_rule(claim)), rule_judge(read_rule(rule_text(claim_rule(claim)))),
                          lambda seen: plain_says(claim, seen)]
                if true:
                    papers = papers_for(claim, world)
                    for judge in judges:
                        self.assertEqual(says(world, papers, judge), (True,) * many, claim)
                else:
                    with self.assertRaises(NotTrue):
                        papers_for(claim, world)
                    self.papers_of_others(claim, world, judges)
                maps = (map_paper(world),) * many
                self.assertIs(all_yes(world, maps, map_judge(lambda seen: is_true(claim, seen))), true)
                found[(claim[0], true)] = found.get((claim[0], true), 0) + 1
        self.assertEqual(len(found), 22)
        self.assertGreater(min(found.values()), 3)

    def papers_of_others(self, claim, world, judges):
        """Papers for worlds of the same web of which the claim is true are refused where it is not."""
        web, many = world.web, world.web.many
        others = [World(web, world.names, tuple(range(len(web.ties)))), World(web, world.names, ()),
                  World(Web((1,) + (0,) * (many - 1), web.ties), world.names, world.picked),
                  World(row_web(many, (1, 2)), world.names, tuple(range(many - 1))), World(web, world.names, world.picked[:1])]
        for other in others:
            if is_true(claim, other):
                papers = papers_for(claim, other)
                told = [all_yes(world, papers, judge) for judge in judges]
                self.assertEqual(told, [False] * 3, (claim, world.names))

    def test_registers_and_the_claim_of_how_many(self):
        for world in self.worlds():
            many = world.web.many
            net = Net(world, 40)
            record = recorded(world, 40, tuple(range(many)) * 3)
            for _ in range(40 + 2 * many):
                net.trip(tuple(range(many)))
            self.assertTrue(net.at_rest())
            self.assertEqual(rounds_of(world, 40, net.registers(), ()), 0)
            for registers in [net.registers(), rest(world), registers_then(record, 0), registers_then(record, 3 * many)]:
                for number in range(1, many + 3):
                    for rule in [claim_rule(("many", number)), read_rule(rule_text(claim_rule(("many", number))))]:
                        told = all_yes(world, registers, rule_judge(rule))
                        self.assertIs(told, is_true(("many", number), world) and registers == rest(world))

    def test_the_main_fact_by_all_doors(self):
        """A saying, its knower, the book of that, its text read, and the saying of that agree on small trees."""
        for text in ["some x sign x 1", "every x not sign x 1"]:
            saying = read_saying(text)
            knower = knower_for(saying, 2)
            book = book_of(knower)
            again = read_book(book_text(book))
            desk = Desk()
            desk.tell("book made " + book_text(book).replace("\n", "|"))
            desk.tell("saying told " + text)
            self.assertEqual(desk.tell("proves made told"), "yes")
            self.assertIsNone(shows(again, knower))
            self.assertTrue(alike(knower_of(again), knower))
            for many in range(1, 5):
                for one in trees(2, many):
                    web = read_web(web_text(tree_of(one)))
                    told = {holds(saying, web), knows(knower, web), marked(again, web) is not None}
                    desk.tell("web tree " + web_text(web).replace("\n", "|"))
                    told |= {desk.tell(line) == "yes" for line in ("shown made tree", "holds told tree", "knows told tree")}
                    self.assertEqual(len(told), 1)


if __name__ == "__main__":
    unittest.main()
