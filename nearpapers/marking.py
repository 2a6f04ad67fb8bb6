"""Papers of a web to which all houses say yes by a book."""

from nearpapers.books import book_judge
from nearpapers.errors import TooMany
from nearpapers.looks import house_rows
from nearpapers.plain import is_row
from nearpapers.ringmarks import ring_many, ring_marks
from nearpapers.searches import search_many, search_marks
from nearpapers.treemarks import tree_many, tree_marks
from nearpapers.webs import kind, near_lists
from nearpapers.worlds import World, all_yes

MOST_OTHER = 8


def by_kind(book, web, of_tree, of_ring, of_other):
    """What one of three functions, the one for the kind of the web, makes of the rows that a book lets."""
    word = kind(web)
    if word == "other" and web.many > MOST_OTHER:
        raise TooMany(MOST_OTHER)
    near = near_lists(web)
    rows = house_rows(book, web, near)
    if word == "tree":
        return of_tree(rows, near)
    seek = of_ring if word == "ring" else of_other
    return seek(rows, near, book.marks)


def marked(book, web):
    """Papers to which all say yes by a book, or None."""
    return by_kind(book, web, tree_marks, ring_marks, search_marks)


def is_marked(book, web, thing):
    """Whether a thing is papers to which all say yes by a book."""
    if not is_row(book.marks, thing) or len(thing) != web.many:
        return False
    return all_yes(World(web, None, ()), thing, book_judge(book))


def many_marked(book, web):
    """How many papers there are to which all say yes by a book."""
    return by_kind(book, web, tree_many, ring_many, search_many)
