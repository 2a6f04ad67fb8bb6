"""Maps: papers that tell a whole world, and the judges that compare them with what houses see."""

from nearpapers.claimwords import need_small_named
from nearpapers.errors import BadTest
from nearpapers.plain import is_row
from nearpapers.webs import big_web, wrong_part
from nearpapers.worlds import World, is_names, near_fives


def map_paper(world):
    """The paper (names, signs, ties, picked flags) of a world with names."""
    need_small_named(world)
    flags = tuple([1 if at in world.picked else 0 for at in range(len(world.web.ties))])
    return (world.names, world.web.signs, world.web.ties, flags)


def mapped_world(paper):
    """The world of at most 16 houses whose map paper a paper is, None if it is none."""
    if not isinstance(paper, tuple) or len(paper) != 4:
        return None
    names, signs, ties, flags = paper
    if wrong_part(signs, ties) is not None or not is_names(len(signs), names):
        return None
    if not is_row(2, flags) or len(flags) != len(ties):
        return None
    return World(big_web(signs, ties), names, tuple([at for at, flag in enumerate(flags) if flag == 1]))


def seen_neighbours(rows):
    """What tells neighbours apart, papers left out, in order."""
    return sorted([row[:4] for row in rows])


def is_on_map(world, own, near):
    """Whether a house and its neighbours stand in a world as they are seen."""
    if own[0] not in world.names:
        return False
    house = world.names.index(own[0])
    if world.web.signs[house] != own[1]:
        return False
    return seen_neighbours(near_fives(world, world.names, house)) == seen_neighbours(near)


def map_judge(test):
    """The judge that says yes where the map is the same all around, is right there, and the test holds of it."""
    def judge(seen):
        own, near = seen
        world = mapped_world(own[2])
        if world is None or not all([row[4] == own[2] for row in near]) or not is_on_map(world, own, near):
            return False
        flag = test(world)
        if flag is not True and flag is not False:
            raise BadTest()
        return flag

    return judge
