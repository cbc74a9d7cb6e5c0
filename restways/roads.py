"""What runs of all kinds ask of their roads."""

from restways.errors import NoLetter
from restways.plain import is_whole


def at_place(road, k):
    """What is at place k, which may be anything, of a road; refused with NoLetter."""
    if not is_whole(k, 0, len(road) - 1):
        raise NoLetter()
    return road[k]


def is_outdone(letter, letters):
    """Whether one of letters, from the same to the same, has a greater nr."""
    return any([other[:2] == letter[:2] and other[2] > letter[2] for other in letters])
