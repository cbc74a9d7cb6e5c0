"""A run: all houses of a town, and the road with the letters on their way."""

from restways.deeds import houses_named, is_deed, town_behind
from restways.errors import Needed, NoDeed, NoLetter
from restways.houses import House
from restways.plain import is_whole


class Run:
    """The houses of a town, begun, and the letters between them."""

    def __init__(self, town):
        self.place = town
        self.people = {name: House(town, name) for name in town[1]}
        self.waiting = []
        for name in town[1]:
            self.waiting.extend(self.people[name].begin())

    def road(self):
        """The list of letters on the way, those told later behind."""
        return list(self.waiting)

    def choice(self):
        """A dict from all houses to the ways that they go by."""
        return {name: house.way() for name, house in self.people.items()}

    def changes(self):
        """A dict from all houses to how often their way became another one."""
        return {name: house.times for name, house in self.people.items()}

    def town(self):
        """The town as it is."""
        return self.place

    def letter_at(self, k):
        """The letter at a place of the road; refused with NoLetter, of anything."""
        if not is_whole(k, 0, len(self.waiting) - 1):
            raise NoLetter()
        return self.waiting[k]

    def was_heard(self, letter):
        """Whether a letter of that nr or a greater one was heard where it goes."""
        one, to, nr = letter[:3]
        return nr <= self.people[to].heard(one)[0]

    def is_outdone(self, letter):
        """Whether a letter with a greater nr from the same to the same is on the road."""
        return any([other[:2] == letter[:2] and other[2] > letter[2] for other in self.waiting])

    def come(self, k):
        """The letter at place k is off the road and heard; refused with NoLetter."""
        letter = self.letter_at(k)
        self.waiting.pop(k)
        self.waiting.extend(self.people[letter[1]].hear(letter))

    def copy(self, k):
        """The letter at place k is heard and stays; refused with NoLetter."""
        letter = self.letter_at(k)
        self.waiting.extend(self.people[letter[1]].hear(letter))

    def lose(self, k):
        """The letter at place k is off the road; refused with NoLetter, then Needed."""
        letter = self.letter_at(k)
        if not self.was_heard(letter) and not self.is_outdone(letter):
            raise Needed()
        self.waiting.pop(k)

    def is_still(self):
        """Whether each letter on the road would be passed over."""
        return all([self.was_heard(letter) for letter in self.waiting])

    def change(self, deed):
        """Does a deed, which may be anything; refused with NoDeed."""
        if not is_deed(self.place, deed):
            raise NoDeed()
        self.place = town_behind(self.place, deed)
        for house in self.people.values():
            house.move_to(self.place)
        named = houses_named(deed)
        if deed[0] == "untie":
            self.part(named)
        for name in named:
            self.waiting.extend(self.people[name].choose())

    def part(self, pair):
        """Takes the letters of two houses to one another off the road, and what they heard and told of one another."""
        self.waiting = [letter for letter in self.waiting if sorted(letter[:2]) != pair]
        one, other = pair
        self.people[one].forget(other)
        self.people[other].forget(one)
