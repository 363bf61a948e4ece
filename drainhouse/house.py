"""A house, which does asks in the slots that it has, and gives and takes slots as the editions tell."""

from drainhouse.checks import SLOTS, check_house
from drainhouse.letters import answer_letter, book_letter, give_letter, has_letter, taken_letter
from drainhouse.worths import with_more

NO_EDITION = (0, None, ())
FIRST_NUMBER = 1
# What a slot is filled with at first: its worth, how many asks were done, and the last answer to each asker.
NEW_SLOT = (0, 0, (None, None, None, None, None, None))
NEVER = (0, 0, 0)


class House:
    """Goes by the latest edition that it heard of."""

    def __init__(self, name):
        check_house(name)
        self.name = name
        self.now = NO_EDITION
        # Whether it was to own slots by some edition.
        self.owned = False
        # For each slot that it has, what the slot is filled with.
        self.held = {}
        # For each slot that it gave, the letter that gives it, till the slot was taken.
        self.giving = {}
        # For each slot that it took by the edition that it knows, who gave it.
        self.takings = {}
        # For each asker (number, book, slot) of its newest ask, letters that came late left aside.
        self.newest = {}
        # For each asker the latest answer; kept here, too, as the slot may be given away before the answer is heard.
        self.last_answers = {}
        self.done = []

    def hear(self, what):
        """Hear one letter."""
        word, *told = what
        if word == "edition":
            self.hear_edition(*told)
        elif word == "give":
            self.hear_give(*told)
        elif word == "taken":
            self.hear_taken(*told)
        else:
            self.hear_ask(*told)

    def letters(self):
        """The letters that are to be sent now."""
        gives = [self.giving[slot] for slot in sorted(self.giving)]
        # Told again and again, as it can't know whether the giver heard; no later edition begins before the giver did.
        takings = [taken_letter(self.takings[slot], self.now[0], slot) for slot in sorted(self.takings)]
        has = [has_letter(self.name, self.now[0])] if self.has_edition() else []
        return gives + takings + self.replies() + has

    def edition(self):
        """The number of the edition that it knows, 0 for none."""
        return self.now[0]

    def serves(self):
        """The slots that it has, rising; none while all hold still."""
        return [] if self.now[1] is None else sorted(self.held)

    def slots(self):
        """(slot, worth, how many asks were done) of all slots that it has, rising."""
        return [(slot, self.held[slot][0], self.held[slot][1]) for slot in sorted(self.held)]

    def deeds(self):
        """(slot, count, asker, number, more, worth, make) of all asks that it did, in turn."""
        return list(self.done)

    def is_gone(self):
        """Whether it was to own slots once, is to own none any more, and has nothing left to give."""
        return self.owned and self.name not in self.now[2] and not self.giving

    def has_edition(self):
        """Whether all that it is to own by the edition that it knows came, and all that it gave was taken."""
        if self.now[0] == 0 or self.giving:
            return False
        return not any([self.is_to_come(slot) for slot in range(SLOTS)])

    def is_to_come(self, slot):
        """Whether it is to own a slot that it hasn't yet."""
        return self.now[2][slot] == self.name and slot not in self.held

    def hear_edition(self, edition):
        """Go by an edition, if it is a later one: what another house owns by it is given away."""
        number, make, owners = edition
        if number <= self.now[0]:
            return
        self.now = edition
        self.takings = {}
        if self.name in owners:
            self.owned = True
        if number == FIRST_NUMBER:
            self.held = {slot: NEW_SLOT for slot in range(SLOTS)}
        for slot in list(self.held):
            if owners[slot] != self.name:
                self.giving[slot] = give_letter(owners[slot], number, self.name, slot, self.held.pop(slot))

    def hear_give(self, number, giver, slot, filled):
        """Take a slot that is to come by the edition that it knows."""
        # By another edition it may be filled with less than was done since, so only this one's is taken.
        if number == self.now[0] and self.is_to_come(slot):
            self.held[slot] = filled
            self.takings[slot] = giver

    def hear_taken(self, number, slot):
        """A slot that it gave was taken."""
        if slot in self.giving and number == self.now[0]:
            del self.giving[slot]

    def hear_ask(self, asker, number, slot, more, book):
        """Do an ask in a slot that it has, or find how it was answered."""
        self.newest[asker] = max(self.newest.get(asker, NEVER), (number, book, slot))
        if slot not in self.held:
            return
        answer = self.held[slot][2][asker]
        if answer is None or answer[0] < number:
            if self.now[1] is None:
                return
            answer = self.do_ask(asker, number, slot, more)
        self.last_answers[asker] = max(self.last_answers.get(asker, answer), answer)

    def do_ask(self, asker, number, slot, more):
        """Do an ask; tells the answer."""
        make = self.now[1]
        worth, count, answers = self.held[slot]
        worth = with_more(worth, more)
        count += 1
        answer = (number, worth, count, make)
        self.held[slot] = (worth, count, (*answers[:asker], answer, *answers[asker + 1:]))
        self.done.append((slot, count, asker, number, more, worth, make))
        return answer

    def replies(self):
        """What is written to askers, to each by its newest ask: the answer, a later edition."""
        replies = []
        for asker in sorted(self.newest):
            number, book, slot = self.newest[asker]
            answer = self.last_answers.get(asker)
            if answer is not None and answer[0] == number:
                replies.append(answer_letter(asker, answer))
            if slot not in self.held and self.now[0] > book:
                replies.append(book_letter(asker, self.now))
        return replies
