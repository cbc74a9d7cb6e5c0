"""What the document says of let ways and rests, tried out plainly: slow, and of small towns alone."""

import itertools


def cond_holds(cond, way, marks, to):
    word, about = cond
    return {
        "not": lambda: not cond_holds(about, way, marks, to),
        "by": lambda: about in way,
        "from": lambda: way[1:2] == (about,),
        "to": lambda: about == to,
        "mark": lambda: about in marks,
        "long": lambda: len(way) > about,
    }[word]()


def worth(town, way, marks):
    rules = dict(zip(town[1], town[3]))[way[0]]
    fitting = [told for conds, told in rules if all(cond_holds(cond, way, marks, None) for cond in conds)]
    return (fitting + [0])[0]


def handed(town, way, marks, to):
    told = set(marks)
    for conds, act in dict(zip(town[1], town[4]))[way[0]]:
        if all(cond_holds(cond, way, told, to) for cond in conds):
            if act == ("keep",):
                return None
            told = told | {act[1]} if act[0] == "put" else told - {act[1]}
    return tuple(sorted(told))


def all_ways(town):
    """All ways of a town, let or not, shorter ones first."""
    goal, houses, ties = town[:3]
    ways = [(goal,)]
    while ways:
        yield from ways
        ways = [(house,) + way for way in ways for house in houses
                if house not in way and tuple(sorted((house, way[0]))) in ties]


def let_marks(town):
    """A dict from all let ways to their marks, shorter ones first."""
    found = {(town[0],): ()}
    for way in all_ways(town):
        if way[1:] in found:
            marks = handed(town, way[1:], found[way[1:]], way[0])
            if marks is not None and worth(town, way, marks) is not None:
                found[way] = marks
    return found


def order(town, ways, marks):
    return sorted(ways, key=lambda way: (-worth(town, way, marks[way]), len(way), way))


def lets(town):
    marks = let_marks(town)
    told = {house: order(town, [way for way in marks if way[0] == house], marks)
            for house in town[1] if house != town[0]}
    return {house: told.get(house, [(town[0],)]) for house in town[1]}


def is_rest(town, choice, marks):
    for house in town[1]:
        near = [other for other in town[1] if tuple(sorted((house, other))) in town[2]]
        ways = [(house,) + choice[other] for other in near if choice[other] is not None]
        best = order(town, [way for way in ways if way in marks], marks)[:1] or [None]
        if choice[house] != ((house,) if house == town[0] else best[0]):
            return False
    return True


def all_choices(town):
    """All choices of a town."""
    told = lets(town)
    for ways in itertools.product(*[told[house] + [None] for house in town[1]]):
        yield dict(zip(town[1], ways))


def rests(town):
    marks = let_marks(town)
    found = [choice for choice in all_choices(town) if is_rest(town, choice, marks)]
    return sorted(found, key=lambda choice: [choice[house] or () for house in town[1]])


def some_town(chance, houses, most_likings, most_hands):
    """A town as a seeded source of chance makes it."""
    def some_cond(words):
        word = chance.choice(words)
        about = {"long": chance.randint(0, 4), "mark": chance.choice("mn")}.get(word, chance.choice(houses))
        return ("not", (word, about)) if chance.random() < 0.3 else (word, about)

    def some_conds(words):
        return tuple(some_cond(words) for _ in range(chance.choice((0, 1, 2, 2, 2, 3))))

    acts = [("keep",), ("put", "m"), ("put", "n"), ("strike", "m"), ("strike", "n")]
    pairs = [pair for pair in itertools.combinations(houses, 2) if chance.random() < 0.8]
    likings = [tuple((some_conds(("by", "from", "long", "mark")), chance.choice((None, -3, -1, 1, 2, 3, 4, 5)))
                     for _ in range(chance.randint(0, most_likings))) for _ in houses]
    hands = [tuple((some_conds(("by", "from", "long", "mark", "to")), chance.choice(acts))
                   for _ in range(chance.randint(0, most_hands))) for _ in houses]
    return (chance.choice(houses), tuple(houses), tuple(pairs), tuple(likings), tuple(hands))


def way_by_next(town, nexts, house):
    """The way to which the next houses lead from house, None where they lead nowhere."""
    way = (house,)
    while way[-1] != town[0]:
        onward = nexts[way[-1]]
        if onward is None or onward in way:
            return None
        way += (onward,)
    return way


def rests_by_next_house(town):
    """All rests, by trying for each house each tied house, or none, as the next one."""
    marks = let_marks(town)
    others = [house for house in town[1] if house != town[0]]
    near = {house: [other for other in town[1] if tuple(sorted((house, other))) in town[2]] for house in others}
    found = []
    for row in itertools.product(*[near[house] + [None] for house in others]):
        nexts = dict(zip(others, row))
        choice = {house: way_by_next(town, nexts, house) for house in town[1]}
        if all(choice[house] in marks or nexts.get(house) is None for house in town[1]):
            if is_rest(town, choice, marks):
                found.append(choice)
    return sorted(found, key=lambda choice: [choice[house] or () for house in town[1]])


def unruly_town(chance, houses):
    """A town that has no rest now and then, and often several: each tied with each, straight ways liked little."""
    likings = []
    for house in houses:
        rows = [((("from", houses[0]),), 0)]
        for other in houses:
            for ties in (2, 3):
                conds = (("from", other), ("long", ties), ("not", ("long", ties + 1)))
                rows.append((conds, chance.choice((None, None, None, None, 1, 2, 3))))
        likings.append(tuple(rows) + (((), None),))
    pairs = tuple(itertools.combinations(houses, 2))
    return (houses[0], tuple(houses), pairs, tuple(likings), ((),) * len(houses))


def leads_on(town):
    """For each let way the set of all let ways to which it leads on."""
    marks = let_marks(town)
    rows = lets(town)
    return {way: {other for other in marks if other[1:] == way}
            | set(rows[way[0]][rows[way[0]].index(way) + 1:]) for way in marks}


def ranks(town):
    """The least ranks, by raising each until it is right; None where that doesn't end."""
    onward = leads_on(town)
    told = {way: 0 for way in onward}
    for _ in range(len(onward) + 1):
        low = [(way, other) for way in onward for other in onward[way] if told[other] <= told[way]]
        if not low:
            return told
        for way, other in low:
            told[other] = max(told[other], told[way] + 1)
    return None


def mosts(town):
    """The mosts of all houses of a town with ranks, as the document says them."""
    rows = lets(town)
    known = {}

    def most(way):
        if way not in known:
            row = rows[way[0]][:rows[way[0]].index(way) + 1]
            known[way] = 1 if len(way) == 1 else sum(most(one[1:]) for one in row)
        return known[way]

    return {house: most(row[-1]) if row else 0 for house, row in rows.items()}


class PlainHouse:
    """A house that keeps all letters ever heard and told, and looks through them anew each time."""

    def __init__(self, town, name):
        self.town, self.name = town, name
        self.come, self.told, self.is_begun = [], [], False

    def near(self):
        return [other for other in self.town[1] if tuple(sorted((self.name, other))) in self.town[2]]

    def heard(self, other):
        rows = [letter[2:] for letter in self.come if letter[0] == other]
        return max(rows, key=lambda row: row[0], default=(0, None, ()))

    def going(self):
        if self.name == self.town[0]:
            return ((self.name,), ()) if self.is_begun else (None, ())
        rows = [self.heard(other)[1:] for other in self.near()]
        rows = [((self.name,) + way, marks) for way, marks in rows if way is not None and self.name not in way]
        rows = [row for row in rows if worth(self.town, *row) is not None]
        return min(rows, key=lambda row: (-worth(self.town, *row), len(row[0]), row[0]), default=(None, ()))

    def letters(self):
        way, marks = self.going()
        found = []
        for other in self.near():
            before = ([letter for letter in self.told if letter[1] == other] or [(0, 0, 0, None, ())])[-1]
            told = None if way is None else handed(self.town, way, marks, other)
            offer = (None, ()) if told is None else (way, told)
            if offer != before[3:]:
                found.append((self.name, other, before[2] + 1) + offer)
        self.told.extend(found)
        return found

    def begin(self):
        self.is_begun = True
        return self.letters()

    def hear(self, letter):
        if letter[2] <= self.heard(letter[0])[0]:
            return []
        self.come.append(letter)
        return self.letters()
