"""The board, which makes the editions, one by one."""

from drainhouse.checks import MOST_HOUSES, SLOTS, check_house
from drainhouse.errors import Known, LastHouse, NoHouse, TooMany
from drainhouse.letters import edition_letter
from drainhouse.shares import shared


class Board:
    """Takes the changes that it is told, and begins each edition when the one ahead is settled."""

    def __init__(self, first):
        check_house(first)
        self.now = (1, 0, (first,) * SLOTS)
        # The houses that are to have the edition and haven't told so yet, rising.
        self.lacking = [first]
        # (make, houses) of each edition that hasn't begun, in turn.
        self.planned = []
        self.known = [first]

    def come(self, house):
        """Let a house come."""
        check_house(house)
        if house in self.known:
            raise Known("the house was told ahead")
        make, houses = self.last_planned()
        if len(houses) == MOST_HOUSES:
            raise TooMany("there are six houses already")
        self.known.append(house)
        self.planned.append((make, sorted([*houses, house])))
        self.begin_next()

    def farewell(self, house):
        """Let a house say farewell."""
        check_house(house)
        make, houses = self.last_planned()
        if house not in houses:
            raise NoHouse("the house isn't there")
        if len(houses) == 1:
            raise LastHouse("no house would be left")
        self.planned.append((make, [other for other in houses if other != house]))
        self.begin_next()

    def turn(self):
        """Let the make be turned: all hold still in one edition, the next one has the newer make."""
        make, houses = self.last_planned()
        self.planned.append((None, houses))
        self.planned.append((make + 1, houses))
        self.begin_next()

    def hear(self, what):
        """Hear that a house has an edition; of an elder edition, or heard again, it means nothing."""
        word, house, number = what
        if word == "has" and number == self.now[0] and house in self.lacking:
            self.lacking.remove(house)
            self.begin_next()

    def edition(self):
        """The edition: (number, make, owners)."""
        return self.now

    def houses(self):
        """The houses by the edition, rising."""
        # Each house owns slots, as there are never more houses than slots.
        return sorted(set(self.now[2]))

    def letters(self):
        """The letters that are to be sent now: the edition, to each house that hasn't told that it has it."""
        return [edition_letter(house, self.now) for house in self.lacking]

    def settled(self):
        """Whether the edition is settled."""
        return not self.lacking

    def waiting(self):
        """How many changes haven't begun, a turn whose second edition hasn't, too."""
        # The edition in which all hold still isn't counted: its turn is, by the edition behind it.
        return len([make for make, houses in self.planned if make is not None])

    def last_planned(self):
        """The make and the houses behind all changes that were told."""
        if self.planned:
            return self.planned[-1]
        return (self.now[1], self.houses())

    def begin_next(self):
        """Begin the edition that is planned next, if the one ahead is settled."""
        if self.lacking or not self.planned:
            return
        make, houses = self.planned.pop(0)
        self.lacking = sorted(set(self.houses() + houses))
        self.now = (self.now[0] + 1, make, shared(self.now[2], houses))
