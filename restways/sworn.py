"""A sworn run: houses of which some lie, and the road with the sealed letters on their way."""

from restways.errors import Forged, Needed
from restways.houses import House
from restways.papers import is_right
from restways.roads import at_place, is_outdone


class Sworn:
    """The houses of a town, the honest ones begun, and the sealed letters between them and the liars."""

    def __init__(self, town, liars):
        self.place = town
        self.liars = liars
        # The honest ones alone: a liar hears nothing, and tells whatever it is made to.
        self.people = {name: House(town, name) for name in town[1] if name not in liars}
        self.waiting = []
        self.posted = []
        self.behind = {}
        for house in self.people.values():
            self.tell(house.begin())

    def road(self):
        """The list of sealed letters on the way, those told later behind."""
        return list(self.waiting)

    def sent(self):
        """The list of all sealed letters that were put on the road, in order."""
        return list(self.posted)

    def choice(self):
        """A dict from the honest houses to the ways that they go by."""
        return {name: house.way() for name, house in self.people.items()}

    def post(self, sealed):
        """Puts a sealed letter on the road."""
        self.waiting.append(sealed)
        self.posted.append(sealed)

    def tell(self, letters):
        """Seals the letters of an honest house, with the papers behind its way, and puts them on the road."""
        for letter in letters:
            way = letter[3]
            has_papers = way is not None and len(way) > 1
            self.post((letter, self.behind[way[:2]] if has_papers else ()))

    def is_newer(self, paper):
        """Whether a paper to an honest house has a greater nr than that heard."""
        one, to, nr = paper[:3]
        return nr > self.people[to].heard(one)[0]

    def would_hear(self, sealed):
        """Whether a sealed letter would be heard, and not be passed over."""
        first = sealed[0]
        return first[1] in self.people and self.is_newer(first) and is_right(self.place, sealed)

    def take(self, sealed):
        """A sealed letter is heard where it goes, or passed over."""
        if self.would_hear(sealed):
            first, papers = sealed
            one, to = first[:2]
            self.behind[(to, one)] = (first,) + papers
            self.tell(self.people[to].hear(first))

    def come(self, k):
        """The sealed letter at place k is off the road and heard; refused with NoLetter."""
        sealed = at_place(self.waiting, k)
        self.waiting.pop(k)
        self.take(sealed)

    def copy(self, k):
        """The sealed letter at place k is heard and stays; refused with NoLetter."""
        self.take(at_place(self.waiting, k))

    def is_needed(self, paper):
        """Whether a paper between honest houses is newer than all that was heard, and none newer is on the road."""
        one, to = paper[:2]
        if one not in self.people or to not in self.people or not self.is_newer(paper):
            return False
        return not is_outdone(paper, [sealed[0] for sealed in self.waiting])

    def lose(self, k):
        """The sealed letter at place k is off the road; refused with NoLetter, then Needed."""
        if self.is_needed(at_place(self.waiting, k)[0]):
            raise Needed()
        self.waiting.pop(k)

    def lie(self, sealed):
        """A liar puts a sealed letter on the road; refused with Forged."""
        first, papers = sealed
        # What an honest house made is on the road as a first paper: it tells all that it seals.
        made = [told[0] for told in self.posted]
        if first[0] not in self.liars or any([paper[0] in self.people and paper not in made for paper in papers]):
            raise Forged()
        self.post(sealed)

    def is_still(self):
        """Whether each sealed letter on the road would be passed over."""
        for sealed in self.waiting:
            if self.would_hear(sealed):
                return False
        return True
