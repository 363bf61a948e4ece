"""A world with a road of its own, put together from a board, houses and askers: what World is held against."""

from drainhouse.asker import Asker
from drainhouse.board import Board
from drainhouse.house import House


class OwnWorld:
    """Does what point 11 says, and tells what point 12 says, by what board, houses and askers tell."""

    def __init__(self, first):
        self.board = Board(first)
        self.book = self.board.edition()
        self.houses = {first: House(first)}
        self.askers = {}
        self.road = []
        self.came, self.answers = [], []

    def come(self, house):
        self.board.come(house)
        self.houses[house] = House(house)

    def farewell(self, house):
        self.board.farewell(house)

    def turn(self):
        self.board.turn()

    def ask(self, asker, slot, more):
        if asker in self.askers:
            return self.askers[asker].ask(slot, more)
        made = Asker(asker, self.book)
        number = made.ask(slot, more)
        self.askers[asker] = made
        return number

    def send(self):
        self.road += self.board.letters()
        for name in range(20):
            self.road += self.houses[name].letters() if name in self.houses else []
        for name in range(6):
            self.road += self.askers[name].letters() if name in self.askers else []
        return len(self.road)

    def heard(self, letter):
        kind, name, what = letter
        if kind == "board":
            self.board.hear(what)
        elif kind == "house":
            ahead = self.houses[name].deeds()
            self.houses[name].hear(what)
            self.came += [(name, deed) for deed in self.houses[name].deeds()[len(ahead):]]
        else:
            ahead = self.askers[name].answer()
            self.askers[name].hear(what)
            if self.askers[name].answer() != ahead:
                self.answers.append((name, self.askers[name].answer()))

    def carry(self, place):
        self.heard(self.road.pop(place))

    def twice(self, place):
        self.heard(self.road[place])

    def lose(self, place):
        self.road.pop(place)

    def settle(self, most):
        for done in range(most):
            if self.is_still():
                return done
            self.send()
            letters, self.road = self.road, []
            for letter in letters:
                self.heard(letter)
        return most

    def is_still(self):
        busy = any(asker.is_busy() for asker in self.askers.values())
        return self.board.settled() and self.board.waiting() == 0 and not busy

    def view(self):
        """What a world tells: deeds, answered, edition, serving, gone, worths, is_still."""
        houses = sorted(self.houses.items())
        return (
            self.came, self.answers, self.board.edition(),
            [(name, house.serves()) for name, house in houses if house.serves()],
            [name for name, house in houses if house.is_gone()],
            sorted(row for name, house in houses for row in house.slots()),
            self.is_still(),
        )


def world_view(world):
    return (
        world.deeds(), world.answered(), world.edition(), world.serving(), world.gone(), world.worths(),
        world.is_still(),
    )
