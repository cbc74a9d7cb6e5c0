"""What the document says, tried out plainly: slow, and of small towns alone."""

import itertools
import re


def cond_holds(cond, way, marks, to):
    word, about = cond
    return {
        "not": lambda: not cond_holds(about, way, marks, to),
        "by": lambda: about in way,
        "from": lambda: way[1:2] == (about,),
        "to": lambda: about == to,
        "mark": lambda: about in marks,
        "long": lambda: len(way) > about,
    }[word]()


def worth(town, way, marks):
    rules = dict(zip(town[1], town[3]))[way[0]]
    fitting = [told for conds, told in rules if all(cond_holds(cond, way, marks, None) for cond in conds)]
    return (fitting + [0])[0]


def handed(town, way, marks, to):
    told = set(marks)
    for conds, act in dict(zip(town[1], town[4]))[way[0]]:
        if all(cond_holds(cond, way, told, to) for cond in conds):
            if act == ("keep",):
                return None
            told = told | {act[1]} if act[0] == "put" else told - {act[1]}
    return tuple(sorted(told))


def all_ways(town):
    """All ways of a town, let or not, shorter ones first."""
    goal, houses, ties = town[:3]
    ways = [(goal,)]
    while ways:
        yield from ways
        ways = [(house,) + way for way in ways for house in houses
                if house not in way and tuple(sorted((house, way[0]))) in ties]


def let_marks(town):
    """A dict from all let ways to their marks, shorter ones first."""
    found = {(town[0],): ()}
    for way in all_ways(town):
        if way[1:] in found:
            marks = handed(town, way[1:], found[way[1:]], way[0])
            if marks is not None and worth(town, way, marks) is not None:
                found[way] = marks
    return found


def order(town, ways, marks):
    return sorted(ways, key=lambda way: (-worth(town, way, marks[way]), len(way), way))


def lets(town):
    marks = let_marks(town)
    told = {house: order(town, [way for way in marks if way[0] == house], marks)
            for house in town[1] if house != town[0]}
    return {house: told.get(house, [(town[0],)]) for house in town[1]}


def is_rest(town, choice, marks):
    for house in town[1]:
        near = [other for other in town[1] if tuple(sorted((house, other))) in town[2]]
        ways = [(house,) + choice[other] for other in near if choice[other] is not None]
        best = order(town, [way for way in ways if way in marks], marks)[:1] or [None]
        if choice[house] != ((house,) if house == town[0] else best[0]):
            return False
    return True


def all_choices(town):
    """All choices of a town."""
    told = lets(town)
    for ways in itertools.product(*[told[house] + [None] for house in town[1]]):
        yield dict(zip(town[1], ways))


def rests(town):
    marks = let_marks(town)
    found = [choice for choice in all_choices(town) if is_rest(town, choice, marks)]
    return sorted(found, key=lambda choice: [choice[house] or () for house in town[1]])


def some_town(chance, houses, most_likings, most_hands):
    """A town as a seeded source of chance makes it."""
    def some_cond(words):
        word = chance.choice(words)
        about = {"long": chance.randint(0, 4), "mark": chance.choice("mn")}.get(word, chance.choice(houses))
        return ("not", (word, about)) if chance.random() < 0.3 else (word, about)

    def some_conds(words):
        return tuple(some_cond(words) for _ in range(chance.choice((0, 1, 2, 2, 2, 3))))

    acts = [("keep",), ("put", "m"), ("put", "n"), ("strike", "m"), ("strike", "n")]
    pairs = [pair for pair in itertools.combinations(houses, 2) if chance.random() < 0.8]
    likings = [tuple((some_conds(("by", "from", "long", "mark")), chance.choice((None, -3, -1, 1, 2, 3, 4, 5)))
                     for _ in range(chance.randint(0, most_likings))) for _ in houses]
    hands = [tuple((some_conds(("by", "from", "long", "mark", "to")), chance.choice(acts))
                   for _ in range(chance.randint(0, most_hands))) for _ in houses]
    return (chance.choice(houses), tuple(houses), tuple(pairs), tuple(likings), tuple(hands))


def way_by_next(town, nexts, house):
    """The way to which the next houses lead from house, None where they lead nowhere."""
    way = (house,)
    while way[-1] != town[0]:
        onward = nexts[way[-1]]
        if onward is None or onward in way:
            return None
        way += (onward,)
    return way


def rests_by_next_house(town):
    """All rests, by trying for each house each tied house, or none, as the next one."""
    marks = let_marks(town)
    others = [house for house in town[1] if house != town[0]]
    near = {house: [other for other in town[1] if tuple(sorted((house, other))) in town[2]] for house in others}
    found = []
    for row in itertools.product(*[near[house] + [None] for house in others]):
        nexts = dict(zip(others, row))
        choice = {house: way_by_next(town, nexts, house) for house in town[1]}
        if all(choice[house] in marks or nexts.get(house) is None for house in town[1]):
            if is_rest(town, choice, marks):
                found.append(choice)
    return sorted(found, key=lambda choice: [choice[house] or () for house in town[1]])


def unruly_town(chance, houses):
    """A town that has no rest now and then, and often several: each tied with each, straight ways liked little."""
    likings = []
    for house in houses:
        rows = [((("from", houses[0]),), 0)]
        for other in houses:
            for ties in (2, 3):
                conds = (("from", other), ("long", ties), ("not", ("long", ties + 1)))
                rows.append((conds, chance.choice((None, None, None, None, 1, 2, 3))))
        likings.append(tuple(rows) + (((), None),))
    pairs = tuple(itertools.combinations(houses, 2))
    return (houses[0], tuple(houses), pairs, tuple(likings), ((),) * len(houses))


def leads_on(town):
    """For each let way the set of all let ways to which it leads on."""
    marks = let_marks(town)
    rows = lets(town)
    return {way: {other for other in marks if other[1:] == way}
            | set(rows[way[0]][rows[way[0]].index(way) + 1:]) for way in marks}


def ranks(town):
    """The least ranks, by raising each until it is right; None where that doesn't end."""
    onward = leads_on(town)
    told = {way: 0 for way in onward}
    for _ in range(len(onward) + 1):
        low = [(way, other) for way in onward for other in onward[way] if told[other] <= told[way]]
        if not low:
            return told
        for way, other in low:
            told[other] = max(told[other], told[way] + 1)
    return None


def mosts(town):
    """The mosts of all houses of a town with ranks, as the document says them."""
    rows = lets(town)
    known = {}

    def most(way):
        if way not in known:
            row = rows[way[0]][:rows[way[0]].index(way) + 1]
            known[way] = 1 if len(way) == 1 else sum(most(one[1:]) for one in row)
        return known[way]

    return {house: most(row[-1]) if row else 0 for house, row in rows.items()}


class PlainHouse:
    """A house that keeps all letters ever heard and told, and looks through them anew each time."""

    def __init__(self, town, name):
        self.town, self.name = town, name
        self.come, self.told, self.is_begun = [], [], False

    def near(self):
        return [other for other in self.town[1] if tuple(sorted((self.name, other))) in self.town[2]]

    def heard(self, other):
        rows = [letter[2:] for letter in self.come if letter[0] == other]
        # Of the same nr the last one: forgetting leaves the nr and takes the way.
        return max(rows[::-1], key=lambda row: row[0], default=(0, None, ()))

    def going(self):
        if self.name == self.town[0]:
            return ((self.name,), ()) if self.is_begun else (None, ())
        rows = [self.heard(other)[1:] for other in self.near()]
        rows = [((self.name,) + way, marks) for way, marks in rows if way is not None and self.name not in way]
        rows = [row for row in rows if worth(self.town, *row) is not None]
        return min(rows, key=lambda row: (-worth(self.town, *row), len(row[0]), row[0]), default=(None, ()))

    def letters(self):
        way, marks = self.going()
        found = []
        for other in self.near():
            before = ([letter for letter in self.told if letter[1] == other] or [(0, 0, 0, None, ())])[-1]
            told = None if way is None else handed(self.town, way, marks, other)
            offer = (None, ()) if told is None else (way, told)
            if offer != before[3:]:
                found.append((self.name, other, before[2] + 1) + offer)
        self.told.extend(found)
        return found

    def begin(self):
        self.is_begun = True
        return self.letters()

    def hear(self, letter):
        if letter[2] <= self.heard(letter[0])[0]:
            return []
        self.come.append(letter)
        return self.letters()

    def forget(self, other):
        self.come.append((other, self.name, self.heard(other)[0], None, ()))
        self.told.append((self.name, other, max([one[2] for one in self.told if one[1] == other], default=0), None, ()))


class PlainRun:
    """A run of plain houses, with all that ever happened looked through anew each time."""

    def __init__(self, town):
        self.place = town
        self.houses = {name: PlainHouse(town, name) for name in town[1]}
        self.on_road, self.ways = [], {name: [None] for name in town[1]}
        for name in town[1]:
            self.tell(self.houses[name].begin())

    def tell(self, letters):
        self.on_road += letters
        for name, house in self.houses.items():
            if house.going()[0] != self.ways[name][-1]:
                self.ways[name].append(house.going()[0])

    def changes(self):
        return {name: len(ways) - 1 for name, ways in self.ways.items()}

    def choice(self):
        return {name: ways[-1] for name, ways in self.ways.items()}

    def come(self, k):
        letter = self.on_road.pop(k)
        self.tell(self.houses[letter[1]].hear(letter))

    def copy(self, k):
        letter = self.on_road[k]
        self.tell(self.houses[letter[1]].hear(letter))

    def may_lose(self, k):
        one, to, nr = self.on_road[k][:3]
        heard = [letter[2] for letter in self.houses[to].come if letter[0] == one]
        return any(other >= nr for other in heard) or any(
            letter[:2] == (one, to) and letter[2] > nr for letter in self.on_road)

    def is_still(self):
        return all(nr <= self.houses[to].heard(one)[0] for one, to, nr, way, marks in self.on_road)

    def change(self, deed):
        goal, houses, ties, likings, hands = self.place
        word, one, about = deed
        named = [one]
        if word in ("tie", "untie"):
            named = sorted(deed[1:])
            ties = tuple(sorted(set(ties) ^ {tuple(named)}))
        if word == "like":
            likings = tuple(about if house == one else row for house, row in zip(houses, likings))
        if word == "hand":
            hands = tuple(about if house == one else row for house, row in zip(houses, hands))
        self.place = (goal, houses, ties, likings, hands)
        if word == "untie":
            self.on_road = [letter for letter in self.on_road if set(letter[:2]) != set(named)]
            self.houses[named[0]].forget(named[1])
            self.houses[named[1]].forget(named[0])
        for house in self.houses.values():
            house.town = self.place
        for name in named:
            letters = self.houses[name].letters()
            self.on_road += letters
            way = self.houses[name].going()[0]
            if way != self.ways[name][-1]:
                self.ways[name].append(way)


def state_begun(town):
    pairs = sorted([pair for pair in town[2]] + [(b, a) for a, b in town[2]])
    waits = {pair: pair[0] == town[0] and handed(town, (town[0],), (), pair[1]) is not None for pair in pairs}
    return tuple((a, b, None, ((a,),) if waits[(a, b)] else ()) for a, b in pairs)


def state_comings(state):
    return sorted((a, b, k) for a, b, heard, waits in state for k, offer in enumerate(waits))


def state_choice(town, state, marks):
    """The choice of a state; marks as let_marks tells them."""
    found = {}
    for house in town[1]:
        ways = [(house,) + heard for a, b, heard, waits in state if b == house and heard is not None]
        found[house] = (order(town, [way for way in ways if way in marks], marks) or [None])[0]
    found[town[0]] = (town[0],)
    return found


def state_come(town, state, coming, width, marks):
    """The state behind a coming; marks as let_marks tells them."""
    one, to, k = coming
    heard = {row[:2]: row[2] for row in state}
    waits = {row[:2]: list(row[3]) for row in state}
    for _ in range(k + 1):
        heard[(one, to)] = waits[(one, to)].pop(0)
    behind = tuple((a, b, heard[(a, b)], ()) for a, b in sorted(heard))
    way = state_choice(town, behind, marks)[to]
    for a, b in waits:
        if a == to:
            keeps = way is None or handed(town, way, marks[way], b) is None
            offer = None if keeps else way
            if offer != ([heard[(a, b)]] + waits[(a, b)])[-1]:
                waits[(a, b)].append(offer)
            if len(waits[(a, b)]) > width:
                waits[(a, b)].pop(0)
    return tuple((a, b, heard[(a, b)], tuple(waits[(a, b)])) for a, b in sorted(heard))


def all_states(town, width, most):
    """All states that can come of begun, None where they are more than most."""
    marks = let_marks(town)
    found = {state_begun(town)}
    fresh = list(found)
    while fresh and len(found) <= most:
        state = fresh.pop()
        for coming in state_comings(state):
            after = state_come(town, state, coming, width, marks)
            if after not in found:
                found.add(after)
                fresh.append(after)
    return found if len(found) <= most else None


def shows_rests(town, paper, width):
    """Whether a dict is a paper that each fair row of comings ends."""
    marks = let_marks(town)
    if state_begun(town) not in paper:
        return False
    for state, (rank, pair) in paper.items():
        waiting = {coming[:2] for coming in state_comings(state)}
        if rank < 0 or (pair is None) != (not waiting) or (waiting and pair not in waiting):
            return False
        for coming in state_comings(state):
            after = paper.get(state_come(town, state, coming, width, marks))
            if after is None or not (after[0] < rank or (coming[:2] != pair and after == (rank, pair))):
                return False
    return True


def shows_round(town, rows, width):
    """Whether (ahead, again) goes round for ever and is fair."""
    marks = let_marks(town)
    ahead, again = rows
    state = state_begun(town)
    turn = None
    for at, coming in enumerate(ahead + again):
        turn = state if at == len(ahead) else turn
        if coming not in state_comings(state):
            return False
        state = state_come(town, state, coming, width, marks)
    waiting = {coming[:2] for coming in state_comings(state)}
    return again != () and state == turn and waiting <= {coming[:2] for coming in again}


def is_right(town, sealed, marks):
    """Whether a sealed letter by its form is right; marks as let_marks tells them."""
    (one, to, nr, way, told), papers = sealed
    if way is None:
        return papers == ()
    if way not in marks or way[0] != one or told != handed(town, way, marks[way], to):
        return False
    # To hand way[k + 1:] to way[k] makes the marks of way[k:].
    asked = [(way[k + 1], way[k], way[k + 1:], marks[way[k:]]) for k in range(len(way) - 1)]
    return [paper[:2] + paper[3:] for paper in papers] == asked


def right_letters(town, nr=1):
    """A right sealed letter, all nrs alike, of each let way to each tied house to which it is handed."""
    marks = let_marks(town)
    for way in marks:
        for to in town[1]:
            told = handed(town, way, marks[way], to)
            if told is not None and tuple(sorted((way[0], to))) in town[2]:
                papers = tuple((way[k + 1], way[k], nr, way[k + 1:], marks[way[k:]]) for k in range(len(way) - 1))
                yield ((way[0], to, nr, way, told), papers)


def named(town, letters):
    """The houses named of sealed letters by their form."""
    marks = let_marks(town)
    false = {(first[0], "false") for first, papers in letters if not is_right(town, (first, papers), marks)}
    papers = [paper for first, behind in letters for paper in (first,) + behind]
    twins = {(one[0], "twin") for one, other in itertools.combinations(papers, 2) if one[:3] == other[:3] and one != other}
    return sorted(false | twins)


class PlainSworn:
    """A sworn run of plain houses, with all that ever happened looked through anew each time."""

    def __init__(self, town, liars):
        self.town, self.liars, self.marks = town, liars, let_marks(town)
        self.honest = {name: PlainHouse(town, name) for name in town[1] if name not in liars}
        self.on_road, self.all_sent, self.all_heard = [], [], []
        for name, house in self.honest.items():
            self.tell(house.begin())

    def tell(self, letters):
        for letter in letters:
            one, way = letter[0], letter[3]
            papers = ()
            if way is not None and way != (self.town[0],):
                behind = [sealed for sealed in self.all_heard if sealed[0][:2] == (way[1], one)]
                first, more = max(behind, key=lambda sealed: sealed[0][2])
                papers = (first,) + more
            self.put((letter, papers))

    def put(self, sealed):
        self.on_road.append(sealed)
        self.all_sent.append(sealed)

    def would_hear(self, sealed):
        one, to, nr = sealed[0][:3]
        if to in self.liars or not is_right(self.town, sealed, self.marks):
            return False
        return nr > self.honest[to].heard(one)[0]

    def hear(self, sealed):
        if self.would_hear(sealed):
            self.all_heard.append(sealed)
            self.tell(self.honest[sealed[0][1]].hear(sealed[0]))

    def come(self, k):
        self.hear(self.on_road.pop(k))

    def copy(self, k):
        self.hear(self.on_road[k])

    def may_lose(self, k):
        one, to, nr = self.on_road[k][0][:3]
        if one in self.liars or to in self.liars:
            return True
        return nr <= self.honest[to].heard(one)[0] or any(
            first[:2] == (one, to) and first[2] > nr for first, papers in self.on_road)

    def is_forged(self, sealed):
        first, papers = sealed
        made = [told for told, behind in self.all_sent if told[0] in self.honest]
        return first[0] not in self.liars or any(one[0] in self.honest and one not in made for one in papers)

    def choice(self):
        return {name: house.going()[0] for name, house in self.honest.items()}

    def is_still(self):
        return not any(self.would_hear(sealed) for sealed in self.on_road)


def some_lie(chance, town, liars, sent):
    """A sealed letter of a liar, not forged: now and then right, now and then made up of whatever there is."""
    made = [first for first, papers in sent if first[0] not in liars]
    marks = let_marks(town)
    near = {one: [other for other in town[1] if tuple(sorted((one, other))) in town[2]] for one in town[1]}
    liar = chance.choice([one for one in liars if near[one]])
    ways = [way for way in marks if way[0] == liar] or [(liar,)]
    way = chance.choice(ways) if chance.random() < 0.9 else tuple(chance.sample(town[1], 2))
    papers = []
    for k in range(1, len(way)):
        one, to = way[k], way[k - 1]
        if one in liars and to in near[one]:
            papers.append((one, to, chance.randint(1, 4), way[k:], marks.get(way[k - 1:], ())))
        else:
            papers.extend([paper for paper in made if paper[:2] == (one, to) and paper[3] == way[k:]][-1:])
    to = chance.choice(near[liar])
    told = handed(town, way, marks.get(way, ()), to) if way[0] == liar else None
    first = (liar, to, chance.randint(1, 6), way, told or ())
    spoil = chance.random()
    if spoil < 0.1 and made:
        papers.insert(0, chance.choice(made))
    elif spoil < 0.2:
        papers = papers[1:]
    elif spoil < 0.3:
        first = first[:4] + (("m", "z"),)
    elif spoil < 0.4:
        first, papers = first[:3] + (None, ()), []
    return (first, tuple(papers))


# A town's text, row by row.
NAME = r"(?!(?:if|and|not|never)(?![a-z]))[a-z]{1,8}(?![a-z])"
NUMBER = r"(?:0|[1-9][0-9]{0,2})"
WORTH = r"(?:never|0|-?[1-9][0-9]{0,2})"
COND = rf"(?:not )?(?:(?:by|from|to|mark) {NAME}|long {NUMBER})"
CONDS = rf"(?: if ({COND}(?: and {COND})*))?"
GOAL = rf"goal ({NAME})"
HOUSES = rf"houses((?: {NAME})+)"
TIE = rf"tie ({NAME}) ({NAME})"
LIKE = rf"like ({NAME}) ({WORTH}){CONDS}"
HAND = rf"hand ({NAME}) (keep|put {NAME}|strike {NAME}){CONDS}"


def read_cond(text):
    word, about = text.rsplit(" ", 1)
    if word.startswith("not "):
        return ("not", read_cond(text[4:]))
    return (word, int(about) if word == "long" else about)


def read_conds(text):
    return tuple(read_cond(part) for part in text.split(" and ")) if text else ()


def read_rows(text):
    """The town of a text, checked for nothing but how it is written; or the number of the first wrong row."""
    rows = text.split("\n")
    goal = re.fullmatch(GOAL, rows[0])
    if not goal:
        return 1
    houses = re.fullmatch(HOUSES, rows[1]) if len(rows) > 1 else None
    if not houses:
        return 2
    names = tuple(houses[1].split())
    ties, likings, hands, last = [], [[] for _ in names], [[] for _ in names], (0, 0)
    for number, row in enumerate(rows[2:], 3):
        tie, like, hand = [re.fullmatch(form, row) for form in (TIE, LIKE, HAND)]
        rule = like or hand
        if not tie and (not rule or rule[1] not in names):
            return number
        at = (0, 0) if tie else (1 if like else 2, names.index(rule[1]))
        if at < last:
            return number
        last = at
        if tie:
            ties.append(tie.groups())
        elif like:
            likings[at[1]].append((read_conds(like[3]), None if like[2] == "never" else int(like[2])))
        else:
            hands[at[1]].append((read_conds(hand[3]), tuple(hand[2].split())))
    return (goal[1], names, tuple(ties), tuple(map(tuple, likings)), tuple(map(tuple, hands)))


def may_be_town(town):
    """Whether what read_rows told makes a town."""
    goal, houses, ties, likings, hands = town
    conds = [cond for rows in likings + hands for rule in rows for cond in rule[0]]
    in_likings = [cond for rows in likings for rule in rows for cond in rule[0]]
    return all((
        goal in houses, len(houses) <= 10, list(houses) == sorted(set(houses)), list(ties) == sorted(set(ties)),
        all(a < b and a in houses and b in houses for a, b in ties),
        all(len(rows) <= 90 for rows in likings + hands),
        all(len(rule[0]) <= 4 for rows in likings + hands for rule in rows),
        all(long_of(cond) <= 99 for cond in conds),
        not any(cond[0] == "to" or cond[0] == "not" and cond[1][0] == "to" for cond in in_likings),
    ))


def long_of(cond):
    """How long a cond asks for, 0 where it asks for something else."""
    word, about = cond
    return long_of(about) if word == "not" else about if word == "long" else 0


def read_town(text):
    """The town of a text, or the number that is told of it."""
    told = read_rows(text)
    if isinstance(told, int):
        return told
    return told if may_be_town(told) else text.count("\n") + 2
