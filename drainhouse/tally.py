"""What deeds came to, and so which ones can be next."""

from drainhouse.worths import with_more

NEW_SLOT = (0, 0)


class Tally:
    """Keeps what the next deed is held against."""

    def __init__(self):
        # For each slot (worth, how many asks were done).
        self.grown = {}
        # For each asker the number of its last ask.
        self.numbers = {}
        self.make = 0

    def lets(self, deed):
        """Whether the deed can be next."""
        slot, count, asker, number, more, worth, make = deed
        ahead, many = self.grown.get(slot, NEW_SLOT)
        if count != many + 1 or worth != with_more(ahead, more):
            return False
        return number == self.numbers.get(asker, 0) + 1 and make >= self.make

    def note(self, deed):
        """Take the deed for the last one."""
        slot, count, asker, number, more, worth, make = deed
        self.grown[slot] = (worth, count)
        self.numbers[asker] = number
        self.make = make
