"""A board, its houses and askers, put together by hand: what tests of houses and askers play with."""

from drainhouse.asker import Asker
from drainhouse.board import Board
from drainhouse.house import House

# The largest number that may be handed in: twenty figures.
FAR = 10 ** 20 - 1
BAD_HOUSES = (-1, 20, FAR, -FAR, True, False)
BAD_ASKERS = (-1, 6, FAR, -FAR, True, False)
BAD_SLOTS = (-1, 12, FAR, -FAR, True, False)
BAD_MORES = (-100, 100, FAR, -FAR, True, False)


class Village:
    """Nothing is heard but what a test lets be heard."""

    def __init__(self, first):
        self.board = Board(first)
        self.houses = {first: House(first)}
        self.askers = {}
        # Each edition by its number, as the board told it.
        self.editions = {1: self.board.edition()}
        # (kind, name) of those that hear nothing, in rounds.
        self.deaf = set()

    def come(self, house):
        self.board.come(house)
        self.houses[house] = House(house)
        self.note_edition()

    def farewell(self, house):
        self.board.farewell(house)
        self.note_edition()

    def turn(self):
        self.board.turn()
        self.note_edition()

    def asker(self, name, number=1):
        """A new asker, with the edition of this number for a book."""
        self.askers[name] = Asker(name, self.editions[number])
        return self.askers[name]

    def note_edition(self):
        edition = self.board.edition()
        self.editions[edition[0]] = edition

    def writers(self):
        """All that write letters."""
        houses = [self.houses[name] for name in sorted(self.houses)]
        return [self.board, *houses, *[self.askers[name] for name in sorted(self.askers)]]

    def letters(self):
        """All letters that are to be sent now."""
        return [letter for writer in self.writers() for letter in writer.letters()]

    def hearer(self, kind, name):
        if kind == "board":
            assert name == 0
            return self.board
        return {"house": self.houses, "asker": self.askers}[kind][name]

    def hear(self, letter):
        kind, name, what = letter
        self.hearer(kind, name).hear(what)
        self.note_edition()

    def hear_all(self, letters):
        for letter in letters:
            self.hear(letter)

    def round(self, chance=None):
        """All letters that are told are heard, in a drawn order."""
        letters = self.letters()
        if chance is not None:
            chance.shuffle(letters)
        self.hear_all([letter for letter in letters if letter[:2] not in self.deaf])
        return letters

    def busy(self):
        """The askers that wait, and aren't deaf."""
        return [name for name in self.askers if self.askers[name].is_busy() and ("asker", name) not in self.deaf]

    def is_calm(self):
        return self.board.settled() and self.board.waiting() == 0 and not self.busy()

    def settle(self):
        """Rounds, till all is calm; tells how many."""
        rounds = 0
        while not self.is_calm():
            assert rounds < 1000
            self.round()
            rounds += 1
        return rounds

    def done(self, asker, slot, more):
        """An ask that is begun, and answered by rounds; tells the answer."""
        self.askers[asker].ask(slot, more)
        self.settle()
        return self.askers[asker].answer()

    def view(self):
        """All that is told, but for letters."""
        board = self.board
        told = [(board.edition(), board.houses(), board.settled(), board.waiting())]
        for name, house in sorted(self.houses.items()):
            told.append((name, house_view(house)))
        for name, asker in sorted(self.askers.items()):
            told.append((name, asker_view(asker)))
        return told


def settled_village(*houses):
    """A village with these houses, all settled."""
    village = Village(houses[0])
    village.settle()
    for house in houses[1:]:
        village.come(house)
        village.settle()
    return village


def house_view(house):
    return (house.edition(), house.serves(), house.slots(), house.deeds(), house.is_gone())


def asker_view(asker):
    return (asker.is_busy(), asker.answer(), asker.book())


def of_kind(letters, kind, name=None):
    """The letters of this kind, and for this name, if one is told."""
    return [letter for letter in letters if letter[0] == kind and name in (None, letter[1])]
