"""How a house hands on a way."""

from restways.rules import all_hold
from restways.towns import hands_of


def marks_behind(marks, act):
    """The marks behind a put or a strike, rising."""
    word, mark = act
    others = [one for one in marks if one != mark]
    if word == "put":
        others.append(mark)
    return tuple(sorted(others))


def handed(town, way, marks, to):
    """The marks with which a way with marks is handed on to a tied house, None where it is kept."""
    told = marks
    for conds, act in hands_of(town, way[0]):
        if not all_hold(conds, way, told, to):
            continue
        if act[0] == "keep":
            return None
        told = marks_behind(told, act)
    return told
