"""A world: a board, its houses, askers, and a road on which their letters lie."""

from drainhouse.asker import Asker
from drainhouse.board import Board
from drainhouse.checks import check_asker, is_within
from drainhouse.errors import BadCount, NoLetter
from drainhouse.house import House

MOST_ROUNDS = 99


class World:
    """Lets letters be heard, one by one, as its caller chooses."""

    def __init__(self, first):
        self.board = Board(first)
        self.first_book = self.board.edition()
        self.house_named = {first: House(first)}
        self.asker_named = {}
        self.road = []
        # (house, deed) and (asker, answer), as they came.
        self.all_deeds = []
        self.all_answers = []

    def come(self, house):
        """Let a house come."""
        self.board.come(house)
        self.house_named[house] = House(house)

    def farewell(self, house):
        """Let a house say farewell."""
        self.board.farewell(house)

    def turn(self):
        """Let the make be turned."""
        self.board.turn()

    def ask(self, asker, slot, more):
        """Let an asker ask; tells the ask's number."""
        check_asker(asker)
        one = self.asker_named.get(asker)
        if one is None:
            one = Asker(asker, self.first_book)
        number = one.ask(slot, more)
        # Only now, so that an ask that is refused leaves no asker behind.
        self.asker_named[asker] = one
        return number

    def send(self):
        """Lay all letters that are to be sent now on the road; tells how many lie there."""
        self.road.extend(self.board.letters())
        for name in sorted(self.house_named):
            self.road.extend(self.house_named[name].letters())
        for name in sorted(self.asker_named):
            self.road.extend(self.asker_named[name].letters())
        return len(self.road)

    def carry(self, place):
        """Take a letter off the road, and let it be heard."""
        self.check_place(place)
        self.deliver(self.road.pop(place))

    def twice(self, place):
        """Let a letter be heard that lies on the road still."""
        self.check_place(place)
        self.deliver(self.road[place])

    def lose(self, place):
        """Take a letter off the road, unheard."""
        self.check_place(place)
        del self.road[place]

    def settle(self, most):
        """Send, and carry all, till all is still, so often at the most; tells how often it was done."""
        if not is_within(most, 0, MOST_ROUNDS):
            raise BadCount("it is done from 0 to 99 times")
        rounds = 0
        while rounds < most and not self.is_still():
            self.send()
            while self.road:
                self.carry(0)
            rounds += 1
        return rounds

    def deeds(self):
        """(house, deed) of all deeds, as they came."""
        return list(self.all_deeds)

    def answered(self):
        """(asker, answer) of all answers, as they came."""
        return list(self.all_answers)

    def edition(self):
        """The board's edition."""
        return self.board.edition()

    def serving(self):
        """(house, slots) of all houses that serve some, rising."""
        rows = [(name, self.house_named[name].serves()) for name in sorted(self.house_named)]
        return [row for row in rows if row[1]]

    def gone(self):
        """The houses that are gone, rising."""
        return [name for name in sorted(self.house_named) if self.house_named[name].is_gone()]

    def worths(self):
        """(slot, worth, how many asks were done) of all slots that lie at houses, rising."""
        return sorted([row for house in self.house_named.values() for row in house.slots()])

    def is_still(self):
        """Whether no change waits, the edition is settled, and no ask is under way."""
        if self.board.waiting() or not self.board.settled():
            return False
        return not any([one.is_busy() for one in self.asker_named.values()])

    def check_place(self, place):
        """Refuse a place at which no letter lies."""
        if not is_within(place, 0, len(self.road) - 1):
            raise NoLetter("no letter lies at that place")

    def deliver(self, letter):
        """Let a letter be heard, and note what came of it."""
        kind, name, what = letter
        if kind == "board":
            self.board.hear(what)
        elif kind == "house":
            house = self.house_named[name]
            many = len(house.done)
            house.hear(what)
            self.all_deeds.extend([(name, deed) for deed in house.done[many:]])
        else:
            one = self.asker_named[name]
            was_busy = one.is_busy()
            one.hear(what)
            if was_busy and not one.is_busy():
                self.all_answers.append((name, one.answer()))
