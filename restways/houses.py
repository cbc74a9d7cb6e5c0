"""Houses: what they hear, go by and tell."""

from restways.handing import handed
from restways.liking import most_liked, worth
from restways.towns import tied

# What is heard of a house, and told to one, ahead of the first letter: its nr, the way, the marks.
NOTHING = (0, None, ())


class House:
    """One house of a town, with what it has heard and told."""

    def __init__(self, town, name):
        self.place = town
        self.name = name
        self.hearings = {}
        self.tellings = {}
        self.going = (None, ())
        self.times = 0

    def way(self):
        """The way that it goes by, or None."""
        return self.going[0]

    def marks(self):
        """The marks of its way, () without one."""
        return self.going[1]

    def heard(self, other):
        """The greatest nr heard of a tied house, with the way and the marks that came with it."""
        return self.hearings.get(other, NOTHING)

    def begin(self):
        """The goal goes by its own way from here on; tells the list of letters."""
        if self.name == self.place[0]:
            self.go_by(((self.name,), ()))
        return self.letters()

    def hear(self, letter):
        """Hears a letter, if it is newer than the last one; tells the list of letters."""
        one, to, nr, way, marks = letter
        if nr <= self.heard(one)[0]:
            return []
        self.hearings[one] = (nr, way, marks)
        return self.choose()

    def choose(self):
        """Goes by what it likes most of all that it heard; tells the list of letters."""
        if self.name != self.place[0]:
            self.go_by(most_liked(self.place, self.open_ways()))
        return self.letters()

    def open_ways(self):
        """The list of (way, marks) of its own that it may take."""
        found = []
        for nr, way, marks in self.hearings.values():
            if way is None or self.name in way:
                continue
            if worth(self.place, (self.name,) + way, marks) is not None:
                found.append(((self.name,) + way, marks))
        return found

    def go_by(self, going):
        """Goes by (way, marks) from here on."""
        if going[0] != self.going[0]:
            self.times += 1
        self.going = going

    def offer(self, other):
        """The way and the marks that it offers to a tied house."""
        way, marks = self.going
        told = None if way is None else handed(self.place, way, marks, other)
        return (None, ()) if told is None else (way, told)

    def letters(self):
        """The list of letters to the tied houses to which it offers something else than it told last."""
        found = []
        for other in tied(self.place, self.name):
            nr, way, marks = self.tellings.get(other, NOTHING)
            offer = self.offer(other)
            if offer != (way, marks):
                self.tellings[other] = (nr + 1,) + offer
                found.append((self.name, other, nr + 1) + offer)
        return found

    def move_to(self, town):
        """Stands in another town from here on; what it goes by stays until it chooses."""
        self.place = town

    def forget(self, other):
        """What it heard of another house, and told it last, is None; the nrs go on as they were."""
        self.hearings[other] = (self.heard(other)[0], None, ())
        self.tellings[other] = (self.tellings.get(other, NOTHING)[0], None, ())
