"""Worlds and papers drawn as lines."""

from nearpapers.errors import NoPapers
from nearpapers.webs import near_lists
from nearpapers.worldparts import picked_near
from nearpapers.worlds import is_papers


def drawn_paper(paper):
    """A paper as a word."""
    if isinstance(paper, tuple):
        return "(" + ",".join([drawn_paper(item) for item in paper]) + ")"
    return "-" if paper is None else str(paper)


def drawn(world, papers):
    """For each house a line: its number, name, sign and paper, then its neighbours, the picked ones with a star."""
    if not is_papers(world.web.many, papers):
        raise NoPapers()
    near = near_lists(world.web)
    picked = picked_near(world)
    lines = []
    for house, paper in enumerate(papers):
        name = "-" if world.names is None else str(world.names[house])
        ties = [str(other) + ("*" if other in picked[house] else "") for other in near[house]]
        lines.append(" ".join([str(house), name, str(world.web.signs[house]), drawn_paper(paper), *ties]))
    return "".join([line + "\n" for line in lines])
