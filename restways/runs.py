"""A run: all houses of a town, and the road with the letters on their way."""

from restways.deeds import houses_named, is_deed, town_behind
from restways.errors import Needed, NoDeed
from restways.houses import House
from restways.roads import at_place, is_outdone


class Run:
    """The houses of a town, begun, and the letters between them."""

    def __init__(self, town):
        self.place = town
        self.people = {name: House(town, name) for name in town[1]}
        self.waiting = []
        for name in town[1]:
            self.waiting.extend(self.people[name].begin())

    def road(self):
        """The list of letters on the way, those told later behind."""
        return list(self.waiting)

    def choice(self):
        """A dict from all houses to the ways that they go by."""
        return {name: house.way() for name, house in self.people.items()}

    def changes(self):
        """A dict from all houses to how often their way became another one."""
        return {name: house.times for name, house in self.people.items()}

    def town(self):
        """The town as it is."""
        return self.place

    def was_heard(self, letter):
        """Whether a letter of that nr or a greater one was heard where it goes."""
        one, to, nr = letter[:3]
        return nr <= self.people[to].heard(one)[0]

    def come(self, k):
        """The letter at place k is off the road and heard; refused with NoLetter."""
        letter = at_place(self.waiting, k)
        self.waiting.pop(k)
        self.waiting.extend(self.people[letter[1]].hear(letter))

    def copy(self, k):
        """The letter at place k is heard and stays; refused with NoLetter."""
        letter = at_place(self.waiting, k)
        self.waiting.extend(self.people[letter[1]].hear(letter))

    def lose(self, k):
        """The letter at place k is off the road; refused with NoLetter, then Needed."""
        letter = at_place(self.waiting, k)
        if not self.was_heard(letter) and not is_outdone(letter, self.waiting):
            raise Needed()
        self.waiting.pop(k)

    def is_still(self):
        """Whether each letter on the road would be passed over."""
        return all([self.was_heard(letter) for letter in self.waiting])

    def change(self, deed):
        """Does a deed, which may be anything; refused with NoDeed."""
        if not is_deed(self.place, deed):
            raise NoDeed()
        self.place = town_behind(self.place, deed)
        for house in self.people.values():
            house.move_to(self.place)
        named = houses_named(deed)
        if deed[0] == "untie":
            self.part(named)
        for name in named:
            self.waiting.extend(self.people[name].choose())

    def part(self, pair):
        """Takes the letters of two houses to one another off the road, and what they heard and told of one another."""
        self.waiting = [letter for letter in self.waiting if sorted(letter[:2]) != pair]
        one, other = pair
        self.people[one].forget(other)
        self.people[other].forget(one)
