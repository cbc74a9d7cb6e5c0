"""Sealed letters: a paper with the papers behind it, whether they are right, and who is named of them."""

from restways.handing import handed
from restways.liking import worth
from restways.names import is_name
from restways.plain import is_number, is_row
from restways.towns import is_house, is_way, tied

LONGEST_WAY = 10
MOST_MARKS = 90
MOST_PAPERS = 10


def are_names(thing, fewest, most):
    """Whether thing is a tuple of fewest to most names."""
    return is_row(thing, fewest, most) and all([is_name(name) for name in thing])


def is_paper(town, thing):
    """Whether thing is a paper by its form."""
    if not is_row(thing, 5, 5):
        return False
    one, to, nr, way, marks = thing
    if not is_house(town[1], one) or not is_house(town[1], to) or to not in tied(town, one):
        return False
    if not is_number(nr) or nr < 1 or not are_names(marks, 0, MOST_MARKS):
        return False
    return marks == () if way is None else are_names(way, 1, LONGEST_WAY)


def is_sealed(town, thing):
    """Whether thing is a sealed letter by its form."""
    if not is_row(thing, 2, 2) or not is_paper(town, thing[0]):
        return False
    return is_row(thing[1], 0, MOST_PAPERS) and all([is_paper(town, paper) for paper in thing[1]])


def was_handed_so(town, paper, marks):
    """Whether the house of a paper takes its way with the marks handed to it, and hands it on as told."""
    one, to, nr, way, told = paper
    if len(way) > 1 and worth(town, way, marks) is None:
        return False
    return handed(town, way, marks, to) == told


def is_right(town, thing):
    """Whether thing, which may be anything, is a sealed letter that is right."""
    if not is_sealed(town, thing):
        return False
    first, papers = thing
    way = first[3]
    if way is None:
        return papers == ()
    if not is_way(town, way) or way[0] != first[0] or len(papers) != len(way) - 1:
        return False
    for k, paper in enumerate(papers):
        if paper[:2] != (way[k + 1], way[k]) or paper[3] != way[k + 1:]:
            return False
    # To each house came the marks of the paper behind its own, to the goal none.
    came = [paper[4] for paper in papers] + [()]
    return all([was_handed_so(town, paper, marks) for paper, marks in zip((first,) + papers, came)])


def named(town, letters):
    """The rising list of (house, word) of those that a list of sealed letters shows to be false or a twin."""
    found = set()
    known = {}
    for first, papers in letters:
        if not is_right(town, (first, papers)):
            found.add((first[0], "false"))
        for paper in (first,) + papers:
            if known.setdefault(paper[:3], paper) != paper:
                found.add((paper[0], "twin"))
    return sorted(found)
