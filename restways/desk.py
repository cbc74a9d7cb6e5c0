"""The desk: a run of a town that is asked and led by lines of text."""

from restways.counts import mosts
from restways.errors import NoRow
from restways.exploring import explored
from restways.lets import lets
from restways.reading import read_town
from restways.rings import rest, ring
from restways.runs import Run
from restways.towns import hands_of, is_house, likings_of
from restways.words import is_figures, rule_in

MOST_FIGURES = 6
WIDTHS = ("1", "2", "3")


def need(is_so):
    """Refuses with NoRow what isn't so written."""
    if not is_so:
        raise NoRow()


def show_way(way):
    """The text of a way, or of none."""
    return "-" if way is None else ".".join(way)


def show_list(words):
    """The text of a list of words."""
    return " ".join(words) if words else "-"


def say_lets(run, words):
    """The let ways of a house, most liked first."""
    need(len(words) == 2 and is_house(run.town()[1], words[1]))
    return show_list([show_way(way) for way in lets(run.town())[words[1]]])


def say_ring(run, words):
    """The ways of a ring of likings."""
    need(len(words) == 1)
    return show_list([show_way(way) for way in ring(run.town()) or []])


def say_rest(run, words):
    """The way of each house at the one rest."""
    need(len(words) == 1)
    return show_list([show_way(way) for way in rest(run.town()).values()])


def say_most(run, words):
    """The most of each house."""
    need(len(words) == 1)
    return show_list([str(many) for many in mosts(run.town()).values()])


def say_come(run, words):
    """A letter comes, comes and stays, or is lost."""
    need(len(words) == 2 and is_figures(words[1], MOST_FIGURES))
    k = int(words[1])
    if words[0] == "come":
        run.come(k)
    elif words[0] == "copy":
        run.copy(k)
    else:
        run.lose(k)
    return "ok"


def say_road(run, words):
    """The letters on the road."""
    need(len(words) == 1)
    letters = [f"{one} {to} {nr} {show_way(way)}" for one, to, nr, way, marks in run.road()]
    return "; ".join(letters) if letters else "-"


def say_go(run, words):
    """The way that each house goes by."""
    need(len(words) == 1)
    return show_list([show_way(way) for way in run.choice().values()])


def say_changes(run, words):
    """How often the way of each house became another one."""
    need(len(words) == 1)
    return show_list([str(many) for many in run.changes().values()])


def say_still(run, words):
    """Whether the run is still."""
    need(len(words) == 1)
    return "yes" if run.is_still() else "no"


def say_tie(run, words):
    """Two houses are tied or untied."""
    houses = run.town()[1]
    need(len(words) == 3 and is_house(houses, words[1]) and is_house(houses, words[2]))
    run.change(tuple(words))
    return "ok"


def say_rule(run, words):
    """A rule is put ahead of its house's others."""
    town = run.town()
    told = rule_in(words)
    need(told is not None and told[0] in town[1])
    house, rule = told
    others = likings_of(town, house) if words[0] == "like" else hands_of(town, house)
    run.change((words[0], house, (rule,) + others))
    return "ok"


def show_comings(row):
    """The list of the words of a row of comings."""
    return [f"{one}>{to}:{k}" for one, to, k in row]


def say_explore(run, words):
    """What comes of all orders at once."""
    need(len(words) == 3 and is_figures(words[1], MOST_FIGURES) and words[1] != "0" and words[2] in WIDTHS)
    word, told = explored(run.town(), int(words[1]), int(words[2]))
    if word != "round":
        return word
    ahead, again = told
    return " ".join([word] + show_comings(ahead) + ["|"] + show_comings(again))


FORMS = {
    "lets": say_lets, "ring": say_ring, "rest": say_rest, "most": say_most,
    "come": say_come, "copy": say_come, "lose": say_come,
    "road": say_road, "go": say_go, "changes": say_changes, "still": say_still,
    "tie": say_tie, "untie": say_tie, "like": say_rule, "hand": say_rule, "explore": say_explore,
}


class Desk:
    """A run of the town of a text."""

    def __init__(self, text):
        self.run = Run(read_town(text))

    def say(self, line):
        """The answer to a line, which may be anything; refused with NoRow, and as the run and the town refuse."""
        words = line.split(" ") if isinstance(line, str) else [""]
        need(words[0] in FORMS)
        form = FORMS[words[0]]
        return form(self.run, words)
