"""What the document says of let ways and rests, tried out plainly: slow, and of small towns alone."""

import itertools


def cond_holds(cond, way, marks, to):
    word, about = cond
    return {
        "not": lambda: not cond_holds(about, way, marks, to),
        "by": lambda: about in way,
        "from": lambda: way[1:2] == (about,),
        "to": lambda: about == to,
        "mark": lambda: about in marks,
        "long": lambda: len(way) > about,
    }[word]()


def worth(town, way, marks):
    rules = dict(zip(town[1], town[3]))[way[0]]
    fitting = [told for conds, told in rules if all(cond_holds(cond, way, marks, None) for cond in conds)]
    return (fitting + [0])[0]


def handed(town, way, marks, to):
    told = set(marks)
    for conds, act in dict(zip(town[1], town[4]))[way[0]]:
        if all(cond_holds(cond, way, told, to) for cond in conds):
            if act == ("keep",):
                return None
            told = told | {act[1]} if act[0] == "put" else told - {act[1]}
    return tuple(sorted(told))


def all_ways(town):
    """All ways of a town, let or not."""
    goal, houses, ties = town[:3]
    for many in range(len(houses)):
        for ahead in itertools.permutations([house for house in houses if house != goal], many):
            way = ahead + (goal,)
            if all(tuple(sorted(pair)) in ties for pair in zip(way, way[1:])):
                yield way


def let_marks(town):
    """A dict from all let ways to their marks, shorter ones first."""
    found = {(town[0],): ()}
    for way in all_ways(town):
        if way[1:] in found:
            marks = handed(town, way[1:], found[way[1:]], way[0])
            if marks is not None and worth(town, way, marks) is not None:
                found[way] = marks
    return found


def order(town, ways, marks):
    return sorted(ways, key=lambda way: (-worth(town, way, marks[way]), len(way), way))


def lets(town):
    marks = let_marks(town)
    told = {house: order(town, [way for way in marks if way[0] == house], marks)
            for house in town[1] if house != town[0]}
    return {house: told.get(house, [(town[0],)]) for house in town[1]}


def is_rest(town, choice, marks):
    for house in town[1]:
        near = [other for other in town[1] if tuple(sorted((house, other))) in town[2]]
        ways = [(house,) + choice[other] for other in near if choice[other] is not None]
        best = order(town, [way for way in ways if way in marks], marks)[:1] or [None]
        if choice[house] != ((house,) if house == town[0] else best[0]):
            return False
    return True


def all_choices(town):
    """All choices of a town."""
    told = lets(town)
    for ways in itertools.product(*[told[house] + [None] for house in town[1]]):
        yield dict(zip(town[1], ways))


def rests(town):
    marks = let_marks(town)
    found = [choice for choice in all_choices(town) if is_rest(town, choice, marks)]
    return sorted(found, key=lambda choice: [choice[house] or () for house in town[1]])


def some_town(chance, houses, most_likings, most_hands):
    """A town as a seeded source of chance makes it."""
    def some_cond(words):
        word = chance.choice(words)
        about = {"long": chance.randint(0, 4), "mark": chance.choice("mn")}.get(word, chance.choice(houses))
        return ("not", (word, about)) if chance.random() < 0.3 else (word, about)

    def some_conds(words):
        return tuple(some_cond(words) for _ in range(chance.choice((0, 1, 2, 2, 2, 3))))

    acts = [("keep",), ("put", "m"), ("put", "n"), ("strike", "m"), ("strike", "n")]
    pairs = [pair for pair in itertools.combinations(houses, 2) if chance.random() < 0.8]
    likings = [tuple((some_conds(("by", "from", "long", "mark")), chance.choice((None, -3, -1, 1, 2, 3, 4, 5)))
                     for _ in range(chance.randint(0, most_likings))) for _ in houses]
    hands = [tuple((some_conds(("by", "from", "long", "mark", "to")), chance.choice(acts))
                   for _ in range(chance.randint(0, most_hands))) for _ in houses]
    return (chance.choice(houses), tuple(houses), tuple(pairs), tuple(likings), tuple(hands))


def way_by_next(town, nexts, house):
    """The way to which the next houses lead from house, None where they lead nowhere."""
    way = (house,)
    while way[-1] != town[0]:
        onward = nexts[way[-1]]
        if onward is None or onward in way:
            return None
        way += (onward,)
    return way


def rests_by_next_house(town):
    """All rests, by trying for each house each tied house, or none, as the next one."""
    marks = let_marks(town)
    others = [house for house in town[1] if house != town[0]]
    near = {house: [other for other in town[1] if tuple(sorted((house, other))) in town[2]] for house in others}
    found = []
    for row in itertools.product(*[near[house] + [None] for house in others]):
        nexts = dict(zip(others, row))
        choice = {house: way_by_next(town, nexts, house) for house in town[1]}
        if all(choice[house] in marks or nexts.get(house) is None for house in town[1]):
            if is_rest(town, choice, marks):
                found.append(choice)
    return sorted(found, key=lambda choice: [choice[house] or () for house in town[1]])


def unruly_town(chance, houses):
    """A town that has no rest now and then, and often several: each tied with each, straight ways liked little."""
    likings = []
    for house in houses:
        rows = [((("from", houses[0]),), 0)]
        for other in houses:
            for ties in (2, 3):
                conds = (("from", other), ("long", ties), ("not", ("long", ties + 1)))
                rows.append((conds, chance.choice((None, None, None, None, 1, 2, 3))))
        likings.append(tuple(rows) + (((), None),))
    pairs = tuple(itertools.combinations(houses, 2))
    return (houses[0], tuple(houses), pairs, tuple(likings), ((),) * len(houses))
