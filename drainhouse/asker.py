"""An asker, which asks the houses that its book names."""

from drainhouse.checks import check_asker, check_edition, is_slot, is_within
from drainhouse.errors import BadAsk, Busy
from drainhouse.letters import ask_letter

LEAST_MORE = -99
MOST_MORE = 99


class Asker:
    """Has one ask under way at the most."""

    def __init__(self, name, edition):
        check_asker(name)
        check_edition(edition)
        self.name = name
        self.now = edition
        self.number = 0
        # (slot, more) of the ask that is under way.
        self.under_way = None
        self.last = None

    def ask(self, slot, more):
        """Begin an ask; tells its number."""
        if not is_slot(slot):
            raise BadAsk("a slot is a number from 0 to 11")
        if not is_within(more, LEAST_MORE, MOST_MORE):
            raise BadAsk("more is a number from -99 to 99")
        if self.is_busy():
            raise Busy("an ask is under way")
        self.number += 1
        self.under_way = (slot, more)
        return self.number

    def hear(self, what):
        """Hear an answer to the ask that is under way, or of a later edition; all else means nothing."""
        word, told = what
        if word == "book":
            # By their numbers, as a make may be None, which can't be compared.
            if told[0] > self.now[0]:
                self.now = told
        elif self.is_busy() and told[0] == self.number:
            self.last = told
            self.under_way = None

    def letters(self):
        """The letters that are to be sent now: the ask that is under way, to whom the book names."""
        if not self.is_busy():
            return []
        slot, more = self.under_way
        number, make, owners = self.now
        return [ask_letter(owners[slot], self.name, self.number, slot, more, number)]

    def is_busy(self):
        """Whether an ask is under way."""
        return self.under_way is not None

    def answer(self):
        """(number, worth, count, make) of the last ask that was answered; None at first."""
        return self.last

    def book(self):
        """The number of the edition that it knows."""
        return self.now[0]
