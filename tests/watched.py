"""A village that is watched: behind each turn it is held against what points 1 and 5 to 9 promise."""

import copy

from tests.village import Village, asker_view, of_kind

LONE = (0, 0)


class Watched(Village):
    """Keeps an own account of all asks; `test` is the test case that is told of what isn't so."""

    def __init__(self, first, test):
        super().__init__(first)
        self.test = test
        # (letter, note) of all letters that were ever told; the note of an ask is what the asker asked.
        self.seen = []
        # asker: (number, slot, more) of its newest ask; all asks that were done: (asker, number): deed.
        self.begun, self.done_asks = {}, {}
        # slot: (worth, count); slot: {asker: deed}, the last ones.
        self.worths = {slot: LONE for slot in range(12)}
        self.last = {slot: {} for slot in range(12)}
        self.last_make = 0
        # house: the deeds that it told ahead; house: the slots that it was to give by the edition that it knows.
        self.told_deeds = {first: []}
        self.to_give = {first: []}
        # house: whether it was to own slots by some edition that it knew.
        self.owned = {first: False}

    def come(self, house):
        super().come(house)
        self.told_deeds[house], self.to_give[house], self.owned[house] = [], [], False

    def begin(self, asker, slot, more):
        """Let an asker ask, unless it is busy."""
        if self.askers[asker].is_busy():
            return
        number = self.askers[asker].ask(slot, more)
        self.test.assertEqual(number, self.begun.get(asker, (0,))[0] + 1)
        self.begun[asker] = (number, slot, more)

    def send(self):
        """All letters that are told, each with its note."""
        sent = []
        for writer in self.writers():
            for letter in writer.letters():
                note = None
                if writer in self.askers.values():
                    asker = [name for name in self.askers if self.askers[name] is writer][0]
                    note = (asker, *self.begun[asker], writer.book())
                sent.append((letter, note))
        self.seen += sent
        return sent

    def hear_noted(self, noted):
        """Let a letter be heard, and look at what came of it."""
        letter, note = noted
        kind, name, what = letter
        if kind == "house":
            self.hear_at_house(name, letter, note)
        elif kind == "asker":
            self.hear_at_asker(name, letter)
        else:
            number = self.board.edition()[0]
            self.hear(letter)
            self.test.assertIn(self.board.edition()[0], (number, number + 1))
            if self.board.edition()[0] > number:
                self.check_settled(number)
        self.check_all()

    def hear_at_house(self, name, letter, note):
        house = self.houses[name]
        number, served, had = house.edition(), house.serves(), [row[0] for row in house.slots()]
        self.hear(letter)
        self.test.assertGreaterEqual(house.edition(), number)
        if house.edition() > number:
            owners = self.editions[house.edition()][2]
            self.to_give[name] = [slot for slot in had if owners[slot] != name]
            self.owned[name] = self.owned[name] or name in owners
        told, ahead = house.deeds(), self.told_deeds[name]
        self.test.assertEqual(told[:len(ahead)], ahead)
        fresh = told[len(ahead):]
        self.told_deeds[name] = told
        if note is None:
            self.test.assertEqual(fresh, [])
        else:
            self.check_asked(name, note, served, fresh)

    def check_asked(self, name, note, served, fresh):
        """An ask was heard: done if it may be done, and answered, or a later edition is told."""
        asker, number, slot, more, book = note
        house = self.houses[name]
        may = slot in served and (asker, number) not in self.done_asks
        self.test.assertEqual(len(fresh), 1 if may else 0)
        for deed in fresh:
            self.account(name, deed, note)
        if number != self.begun[asker][0] or not self.askers[asker].is_busy():
            return
        view = self.view_if_told(name, asker)
        if slot in [row[0] for row in house.slots()]:
            deed = self.done_asks.get((asker, number))
            if deed is not None:
                self.test.assertEqual(view[:2], (False, (number, deed[5], deed[1], deed[6])))
        elif house.edition() > book:
            self.test.assertGreaterEqual(view[2], house.edition())

    def view_if_told(self, name, asker):
        """What the asker would know if it heard all that the house writes to it."""
        other = copy.deepcopy(self.askers[asker])
        for kind, to, what in of_kind(self.houses[name].letters(), "asker", asker):
            other.hear(what)
        return asker_view(other)

    def account(self, name, deed, note):
        """A deed that was just done is the one that was to be done, by a house that may do it."""
        asker, number, slot, more, book = note
        edition = self.editions[self.houses[name].edition()]
        worth, count = self.worths[slot]
        worth = (worth + more) % 1000
        self.test.assertEqual(deed, (slot, count + 1, asker, number, more, worth, edition[1]))
        self.test.assertIsNotNone(edition[1])
        self.test.assertEqual(edition[2][slot], name)
        self.test.assertGreaterEqual(edition[1], self.last_make)
        self.last_make = edition[1]
        self.worths[slot] = (worth, count + 1)
        self.done_asks[asker, number] = deed
        self.last[slot][asker] = deed

    def hear_at_asker(self, name, letter):
        asker = self.askers[name]
        ahead = asker_view(asker)
        self.hear(letter)
        busy, answer, book = asker_view(asker)
        self.test.assertIn(book, self.editions)
        self.test.assertGreaterEqual(book, ahead[2])
        if ahead[0] and not busy:
            number = self.begun[name][0]
            deed = self.done_asks[name, number]
            self.test.assertEqual(answer, (number, deed[5], deed[1], deed[6]))
        else:
            self.test.assertEqual((busy, answer), ahead[:2])

    def check_all(self):
        """What is so at any time."""
        lying = [(*row, name) for name, house in self.houses.items() for row in house.slots()]
        slots = [row[0] for row in lying]
        self.test.assertEqual(len(slots), len(set(slots)))
        for slot, worth, count, name in lying:
            self.test.assertEqual((worth, count), self.worths[slot])
        for name in self.houses:
            self.check_house(name, {row[0]: row[3] for row in lying})
        for name, asker in self.askers.items():
            self.check_asker(name, asker)

    def check_house(self, name, place):
        """What is so of a house at any time; place tells where each slot lies."""
        house = self.houses[name]
        had = sorted(slot for slot in place if place[slot] == name)
        self.test.assertEqual([row[0] for row in house.slots()], had)
        letters = house.letters()
        self.test.assertEqual(letters, house.letters())
        tells_board = len(of_kind(letters, "board"))
        if house.edition() == 0:
            self.test.assertEqual((had, letters, house.serves(), house.is_gone()), ([], [], [], False))
            return
        number, make, owners = self.editions[house.edition()]
        self.test.assertEqual(house.serves(), [] if make is None else had)
        self.test.assertEqual([slot for slot in had if owners[slot] != name], [])
        taken = all(place.get(slot) not in (None, name) for slot in self.to_give[name])
        came = all(place.get(slot) == name for slot in range(12) if owners[slot] == name)
        if taken and came and not self.to_give[name]:
            self.test.assertEqual(tells_board, 1)
        elif tells_board and number == self.board.edition()[0]:
            self.test.assertEqual((tells_board, taken, came), (1, True, True))
        gone = self.owned[name] and name not in owners
        if house.is_gone():
            self.test.assertTrue(gone and (taken or number < self.board.edition()[0]))
            self.test.assertEqual(tells_board, 1)
        elif gone:
            self.test.assertTrue(self.to_give[name])
            self.test.assertEqual(tells_board, 0)

    def check_asker(self, name, asker):
        letters = asker.letters()
        self.test.assertEqual(letters, asker.letters())
        if asker.is_busy():
            number, slot, more = self.begun[name]
            self.test.assertEqual([letter[:2] for letter in letters], [("house", self.editions[asker.book()][2][slot])])
        else:
            self.test.assertEqual(letters, [])

    def check_settled(self, number):
        """The edition of this number is settled: all slots lie at their owners."""
        make, owners = self.editions[number][1:]
        for slot, owner in enumerate(owners):
            self.test.assertIn(slot, [row[0] for row in self.houses[owner].slots()])
        for name in set(owners) | set(self.editions.get(number - 1, (0, 0, owners))[2]):
            self.test.assertGreaterEqual(self.houses[name].edition(), number)

    def check_calm(self):
        """All is settled and answered, and each slot lies at its owner."""
        self.test.assertTrue(self.board.settled())
        self.test.assertEqual((self.board.waiting(), self.busy()), (0, []))
        self.check_settled(self.board.edition()[0])
        for name, (number, slot, more) in self.begun.items():
            if ("asker", name) in self.deaf:
                continue
            deed = self.done_asks[name, number]
            self.test.assertEqual(self.askers[name].answer(), (number, deed[5], deed[1], deed[6]))
        self.check_all()
