"""Points 1 and 5 to 8: houses, by hand."""

import copy
import unittest

from drainhouse.errors import BadHouse
from drainhouse.house import House
from tests.village import BAD_HOUSES, Village, asker_view, house_view, of_kind, settled_village

ALL = list(range(12))


def tells_board(house):
    """How many letters of the house go to the board."""
    return len(of_kind(house.letters(), "board"))


def rows(slots, worth=0, count=0):
    return [(slot, worth, count) for slot in slots]


def ask_letters(village, asker, slot, more, number=1):
    """The letters of a new asker that begins an ask."""
    made = village.asker(asker, number)
    made.ask(slot, more)
    return made.letters()


def told_to(village, house, asker):
    """What the asker would know if it heard now all that the house tells it: (is_busy, answer, book)."""
    other = copy.deepcopy(village.askers[asker])
    for kind, name, what in of_kind(village.houses[house].letters(), "asker", asker):
        other.hear(what)
    return asker_view(other)


class NewHouse(unittest.TestCase):
    def test_it_has_nothing(self):
        for name in (0, 1, 18, 19):
            house = House(name)
            self.assertEqual(house_view(house), (0, [], [], [], False))
            self.assertEqual(house.letters(), [])

    def test_no_house(self):
        for name in BAD_HOUSES:
            with self.subTest(name=name), self.assertRaises(BadHouse):
                House(name)

    def test_the_first_house_has_all_slots_at_once(self):
        for first in (0, 7, 19):
            village = Village(first)
            house = village.houses[first]
            village.hear_all(village.board.letters())
            self.assertEqual(house_view(house), (1, ALL, rows(ALL), [], False))
            self.assertEqual([letter[:2] for letter in house.letters()], [("board", 0)])
            village.hear_all(house.letters())
            self.assertTrue(village.board.settled())

    def test_a_house_that_waits_hears_of_nothing(self):
        village = Village(4)
        village.come(2)
        village.hear_all(village.board.letters())
        self.assertEqual(house_view(village.houses[2]), (0, [], [], [], False))
        self.assertEqual(village.houses[2].letters(), [])

    def test_an_ask_is_not_done_by_a_house_that_has_nothing(self):
        village = Village(4)
        letters = ask_letters(village, 0, 3, 5)
        village.hear_all(letters)
        self.assertEqual(house_view(village.houses[4]), (0, [], [], [], False))
        self.assertEqual(village.houses[4].letters(), [])
        village.settle()
        self.assertEqual(village.askers[0].answer(), (1, 5, 1, 0))


class Given(unittest.TestCase):
    """House 0 has all; 5 comes and is to own slots 6 to 11."""

    def setUp(self):
        self.village = settled_village(0)
        self.village.come(5)
        self.giver, self.taker = self.village.houses[0], self.village.houses[5]

    def hear_edition(self, name):
        self.village.hear_all(of_kind(self.village.board.letters(), "house", name))

    def give_all(self):
        """Both hear the edition, and the taker takes all."""
        self.hear_edition(0)
        self.hear_edition(5)
        self.village.hear_all(of_kind(self.giver.letters(), "house", 5))

    def test_ahead_of_the_edition_all_stays(self):
        self.assertEqual(self.village.board.edition(), (2, 0, (0,) * 6 + (5,) * 6))
        self.assertEqual(house_view(self.giver), (1, ALL, rows(ALL), [], False))

    def test_what_it_gives_it_has_no_more(self):
        self.hear_edition(0)
        self.assertEqual(house_view(self.giver), (2, ALL[:6], rows(ALL[:6]), [], False))

    def test_it_has_the_edition_when_all_was_taken(self):
        self.assertEqual(tells_board(self.giver), 1)
        self.give_all()
        self.assertEqual(tells_board(self.giver), 0)
        takings = of_kind(self.taker.letters(), "house", 0)
        for letter in takings:
            self.assertEqual(tells_board(self.giver), 0)
            self.village.hear(letter)
        self.assertEqual(tells_board(self.giver), 1)

    def test_one_taking_that_is_not_heard_is_enough_to_lack_it(self):
        self.give_all()
        takings = of_kind(self.taker.letters(), "house", 0)
        self.village.hear_all(takings[1:] + takings[1:])
        self.assertEqual(tells_board(self.giver), 0)
        self.village.hear(takings[0])
        self.assertEqual(tells_board(self.giver), 1)

    def test_a_house_that_comes_has_the_edition_when_all_came(self):
        self.assertEqual(tells_board(self.taker), 0)
        self.hear_edition(0)
        self.hear_edition(5)
        self.assertEqual(house_view(self.taker), (2, [], [], [], False))
        self.assertEqual(self.taker.letters(), [])
        gives = of_kind(self.giver.letters(), "house", 5)
        taken = set()
        for letter in gives:
            self.assertEqual(tells_board(self.taker), 0 if len(taken) < 6 else 1)
            self.village.hear(letter)
            taken |= set(self.taker.serves())
        self.assertEqual(taken, set(ALL[6:]))
        self.assertEqual(house_view(self.taker), (2, ALL[6:], rows(ALL[6:]), [], False))
        self.assertEqual(tells_board(self.taker), 1)

    def test_what_comes_ahead_of_the_edition_is_not_served(self):
        self.hear_edition(0)
        self.village.hear_all(of_kind(self.giver.letters(), "house", 5))
        self.assertEqual(self.taker.edition(), 0)
        self.assertEqual(self.taker.serves(), [])
        self.assertEqual(tells_board(self.taker), 0)
        self.hear_edition(5)
        self.village.hear_all(of_kind(self.giver.letters(), "house", 5))
        self.assertEqual(self.taker.serves(), ALL[6:])

    def test_it_is_given_till_it_was_taken(self):
        self.hear_edition(0)
        gives = of_kind(self.giver.letters(), "house", 5)
        for again in range(5):
            self.hear_edition(0)
            self.assertEqual(of_kind(self.giver.letters(), "house", 5), gives)
        self.give_all()
        self.assertEqual(of_kind(self.giver.letters(), "house", 5), gives)
        self.village.hear_all(of_kind(self.taker.letters(), "house", 0))
        self.assertEqual(of_kind(self.giver.letters(), "house", 5), [])

    def test_what_was_taken_is_not_taken_again(self):
        self.hear_edition(0)
        gives = of_kind(self.giver.letters(), "house", 5)
        self.give_all()
        self.village.hear_all(ask_letters(self.village, 3, 8, 40, 2))
        self.assertEqual(self.taker.slots()[2], (8, 40, 1))
        told = house_view(self.taker)
        self.village.hear_all(gives)
        self.assertEqual(house_view(self.taker), told)

    def test_a_slot_that_is_on_its_way_lies_nowhere(self):
        self.hear_edition(0)
        letters = ask_letters(self.village, 3, 8, 40, 1)
        self.village.hear_all(letters)
        self.assertEqual(self.giver.deeds(), [])
        self.give_all()
        self.village.hear_all(letters)
        self.assertEqual((self.giver.deeds(), self.taker.deeds()), ([], []))

    def test_slots_it_keeps_are_served_meanwhile(self):
        self.hear_edition(0)
        self.village.hear_all(ask_letters(self.village, 3, 5, 40, 1))
        self.assertEqual(self.giver.deeds(), [(5, 1, 3, 1, 40, 40, 0)])

    def test_slots_that_came_are_served_ahead_of_the_rest(self):
        self.hear_edition(0)
        self.hear_edition(5)
        gives = of_kind(self.giver.letters(), "house", 5)
        self.village.hear(gives[0])
        slot, = self.taker.serves()
        self.village.hear_all(ask_letters(self.village, 3, slot, 40, 2))
        self.assertEqual(self.taker.deeds(), [(slot, 1, 3, 1, 40, 40, 0)])

    def test_an_elder_edition_means_nothing(self):
        first = Village(0).board.letters()
        self.hear_edition(0)
        told, letters = house_view(self.giver), self.giver.letters()
        self.village.hear_all(first)
        self.assertEqual((house_view(self.giver), self.giver.letters()), (told, letters))

    def test_letters_of_an_elder_edition_mean_nothing(self):
        """Slots go from 0 to 5, back to 0, and are then to come from 0 to 8: what was written ahead is heard late."""
        self.hear_edition(0)
        old_gives = of_kind(self.giver.letters(), "house", 5)
        self.give_all()
        old_takings = of_kind(self.taker.letters(), "house", 0)
        self.village.settle()
        self.village.asker(1)
        self.village.done(1, 9, 7)
        self.village.farewell(5)
        self.village.settle()
        self.assertEqual(self.giver.slots()[9], (9, 7, 1))
        self.village.come(8)
        self.hear_edition(0)
        giving = self.giver.letters()
        self.village.hear_all(old_gives + old_takings)
        self.assertEqual(self.giver.letters(), giving)
        self.assertEqual(house_view(self.taker), (3, [], [], [(9, 1, 1, 1, 7, 7, 0)], True))
        self.village.settle()
        self.assertEqual(self.village.houses[8].slots()[3], (9, 7, 1))


class Back(unittest.TestCase):
    def test_a_slot_that_comes_back_is_not_taken_from_an_old_letter(self):
        """Slots come to 3, go, and come back; the letters that gave them to 3 are heard again each time."""
        village = settled_village(0)
        village.asker(0)
        seen, turns = [], 0
        for change, house in (
            (village.come, 3), (village.come, 5), (village.farewell, 0), (village.farewell, 5), (village.come, 9),
            (village.farewell, 9), (village.come, 1), (village.farewell, 1),
        ):
            for slot in range(12):
                village.done(0, slot, 1)
            turns += 1
            change(house)
            village.hear_all(village.board.letters())
            ahead = village.houses[3].slots()
            village.hear_all([letter for letter in seen if letter[:2] == ("house", 3)])
            self.assertEqual(village.houses[3].slots(), ahead)
            while not village.is_calm():
                seen += village.round()
            lying = sorted(row for other in village.houses.values() for row in other.slots())
            self.assertEqual(lying, rows(ALL, turns, turns))


class Gone(unittest.TestCase):
    def test_it_is_gone_when_all_was_taken(self):
        village = settled_village(0, 5)
        leaver, other = village.houses[5], village.houses[0]
        village.farewell(5)
        self.assertFalse(leaver.is_gone())
        village.hear_all(of_kind(village.board.letters(), "house", 5))
        self.assertEqual(house_view(leaver), (3, [], [], [], False))
        self.assertEqual(tells_board(leaver), 0)
        village.hear_all(of_kind(village.board.letters(), "house", 0))
        village.hear_all(of_kind(leaver.letters(), "house", 0))
        self.assertFalse(leaver.is_gone())
        takings = of_kind(other.letters(), "house", 5)
        village.hear_all(takings[:-1])
        self.assertFalse(leaver.is_gone())
        village.hear(takings[-1])
        self.assertTrue(leaver.is_gone())
        self.assertEqual(tells_board(leaver), 1)
        self.assertFalse(other.is_gone())
        self.assertEqual(other.serves(), ALL)

    def test_it_stays_gone(self):
        village = settled_village(0, 5)
        village.farewell(5)
        village.settle()
        village.come(1)
        village.turn()
        village.settle()
        self.assertEqual(house_view(village.houses[5]), (3, [], [], [], True))
        self.assertEqual(tells_board(village.houses[5]), 1)

    def test_nothing_is_done_behind_the_farewell(self):
        village = settled_village(0, 5)
        letters = ask_letters(village, 2, 11, 40, 2)
        village.farewell(5)
        village.hear_all(letters)
        self.assertEqual(village.houses[5].deeds(), [(11, 1, 2, 1, 40, 40, 0)])
        village.hear_all(of_kind(village.board.letters(), "house", 5))
        village.asker(3, 2).ask(11, 1)
        village.hear_all(village.askers[3].letters())
        self.assertEqual(len(village.houses[5].deeds()), 1)
        village.settle()
        self.assertEqual(village.askers[3].answer(), (1, 41, 2, 0))
        self.assertEqual(village.houses[0].deeds(), [(11, 2, 3, 1, 1, 41, 0)])

    def test_a_house_that_waits_or_is_new_is_not_gone(self):
        village = settled_village(0)
        village.come(5)
        self.assertFalse(village.houses[5].is_gone())
        village.hear_all(of_kind(village.board.letters(), "house", 5))
        self.assertFalse(village.houses[5].is_gone())


class Asks(unittest.TestCase):
    def setUp(self):
        self.village = settled_village(3)
        self.house = self.village.houses[3]
        self.village.asker(0)
        self.village.asker(5)

    def test_the_worth_becomes_the_worth_with_more(self):
        for slot in (0, 11):
            self.assertEqual(self.village.done(0, slot, 99)[1:], (99, 1, 0))
            self.assertEqual(self.village.done(5, slot, -40)[1:], (59, 2, 0))
            self.assertEqual(self.village.done(5, slot, 0)[1:], (59, 3, 0))
        self.assertEqual(self.house.slots(), [(0, 59, 3), *rows(ALL[1:11]), (11, 59, 3)])

    def test_the_rest_by_a_thousand(self):
        self.assertEqual(self.village.done(0, 4, -99), (1, 901, 1, 0))
        self.assertEqual(self.village.done(0, 4, 98), (2, 999, 2, 0))
        self.assertEqual(self.village.done(0, 4, 1), (3, 0, 3, 0))
        self.assertEqual(self.village.done(0, 4, -1), (4, 999, 4, 0))
        for count in range(5, 15):
            self.village.done(0, 4, 99)
        self.assertEqual(self.village.askers[0].answer(), (14, 989, 14, 0))
        self.assertEqual(self.village.done(0, 4, 99), (15, 88, 15, 0))

    def test_deeds_in_turn(self):
        self.village.done(5, 11, -1)
        self.village.done(0, 2, 7)
        self.village.done(0, 11, 4)
        self.assertEqual(self.house.deeds(), [
            (11, 1, 5, 1, -1, 999, 0), (2, 1, 0, 1, 7, 7, 0), (11, 2, 0, 2, 4, 3, 0),
        ])

    def test_the_last_one_is_not_done_again_but_answered(self):
        asker = self.village.askers[0]
        asker.ask(6, 30)
        letters = asker.letters()
        for again in range(4):
            self.village.hear_all(letters)
            self.assertEqual(self.house.deeds(), [(6, 1, 0, 1, 30, 30, 0)])
            self.assertEqual(told_to(self.village, 3, 0), (False, (1, 30, 1, 0), 1))
            if again == 1:
                self.village.done(5, 6, 5)
                self.house.deeds()
                break
        self.village.hear_all(letters)
        self.assertEqual(told_to(self.village, 3, 0), (False, (1, 30, 1, 0), 1))
        self.assertEqual(self.house.slots()[6], (6, 35, 2))

    def test_an_elder_one_is_not_done_again(self):
        asker = self.village.askers[0]
        seen = []
        for number in range(1, 5):
            asker.ask(6, number)
            seen += asker.letters()
            self.village.settle()
        told = house_view(self.house)
        self.village.hear_all(seen + seen[::-1])
        self.assertEqual(house_view(self.house), told)
        self.assertEqual([deed[3] for deed in told[3]], [1, 2, 3, 4])

    def test_an_elder_one_of_another_slot_is_not_done_again(self):
        asker = self.village.askers[0]
        asker.ask(6, 1)
        letters = asker.letters()
        self.village.settle()
        self.village.done(0, 7, 1)
        asker.ask(8, 50)
        self.village.hear_all(asker.letters() + letters)
        self.assertEqual([deed[:4] for deed in self.house.deeds()], [(6, 1, 0, 1), (7, 1, 0, 2), (8, 1, 0, 3)])
        # The one that came late doesn't keep the answer to the newest one from being told.
        self.assertEqual(told_to(self.village, 3, 0), (False, (3, 50, 1, 0), 1))

    def test_askers_of_one_slot_are_known_one_by_one(self):
        letters = []
        for name in range(6):
            letters += ask_letters(self.village, name, 6, 10)
        self.village.hear_all(letters + letters[::-1])
        self.assertEqual([deed[2] for deed in self.house.deeds()], [0, 1, 2, 3, 4, 5])
        for name in range(6):
            self.assertEqual(told_to(self.village, 3, name), (False, (1, 10 * name + 10, name + 1, 0), 1))

    def test_the_make_that_it_was_done_by(self):
        self.village.turn()
        self.village.settle()
        self.assertEqual(self.village.done(0, 6, 3), (1, 3, 1, 1))
        self.village.turn()
        self.village.turn()
        self.village.settle()
        self.assertEqual(self.village.done(0, 6, 3), (2, 6, 2, 3))
        self.assertEqual([deed[6] for deed in self.house.deeds()], [1, 3])


class Holding(unittest.TestCase):
    def setUp(self):
        self.village = settled_village(3)
        self.house = self.village.houses[3]

    def hold(self):
        self.village.turn()
        self.village.hear_all(self.village.board.letters())
        self.assertEqual(self.house.edition(), 2)

    def test_none_is_served(self):
        self.hold()
        self.assertEqual(house_view(self.house), (2, [], rows(ALL), [], False))
        self.assertEqual(tells_board(self.house), 1)
        self.village.round()
        self.assertEqual(self.village.board.edition()[:2], (3, 1))
        self.assertEqual(self.house.serves(), [])
        self.village.round()
        self.assertEqual(house_view(self.house), (3, ALL, rows(ALL), [], False))

    def test_nothing_is_done(self):
        letters = ask_letters(self.village, 0, 6, 30)
        self.hold()
        self.village.hear_all(letters)
        self.assertEqual(house_view(self.house), (2, [], rows(ALL), [], False))
        self.assertEqual(told_to(self.village, 3, 0), (True, None, 1))
        self.village.settle()
        self.assertEqual(self.house.deeds(), [(6, 1, 0, 1, 30, 30, 1)])

    def test_the_last_one_is_answered_meanwhile(self):
        letters = ask_letters(self.village, 0, 6, 30)
        self.village.hear_all(letters)
        self.hold()
        self.village.hear_all(letters)
        self.assertEqual(told_to(self.village, 3, 0), (False, (1, 30, 1, 0), 1))
        self.assertEqual(self.house.slots()[6], (6, 30, 1))

    def test_also_by_a_house_that_did_not_do_it(self):
        letters = ask_letters(self.village, 0, 6, 30)
        self.village.hear_all(letters)
        self.village.deaf = {("asker", 0)}
        self.village.come(9)
        self.village.settle()
        self.village.turn()
        self.village.hear_all(self.village.board.letters())
        # The same asker, as if it had heard of edition 2 but of no answer.
        self.village.asker(0, 2).ask(6, 30)
        self.village.hear_all(self.village.askers[0].letters())
        self.assertEqual(self.village.houses[9].serves(), [])
        self.assertEqual(told_to(self.village, 9, 0), (False, (1, 30, 1, 0), 2))
        self.assertEqual(self.village.houses[9].deeds(), [])


class Wherever(unittest.TestCase):
    """What was done at one house is answered by the next ones, of all askers."""

    def test_the_last_ones_go_with_the_slot(self):
        village = settled_village(0)
        letters = []
        for name in range(6):
            letters += ask_letters(village, name, 11, 10)
        village.hear_all(letters)
        expected = {name: (1, 10 * name + 10, name + 1, 0) for name in range(6)}
        village.deaf = {("asker", name) for name in range(6)}
        for house in range(1, 5):
            village.come(house)
            village.farewell(house - 1)
            village.settle()
            self.assertEqual(village.board.edition()[2], (house,) * 12)
        village.deaf = set()
        for name in range(6):
            # The same asker, as if it had heard of edition 2 but of no answer.
            village.asker(name, 2).ask(11, 10)
        village.settle()
        self.assertEqual({name: asker.answer() for name, asker in village.askers.items()}, expected)
        self.assertEqual([len(village.houses[name].deeds()) for name in range(5)], [6, 0, 0, 0, 0])
        self.assertEqual(village.houses[4].slots()[11], (11, 60, 6))
        self.assertEqual(village.done(2, 11, -5), (2, 55, 7, 0))

    def test_an_answer_is_told_still_when_the_slot_was_given(self):
        village = settled_village(0)
        village.hear_all(ask_letters(village, 2, 11, 10))
        village.come(5)
        village.hear_all(of_kind(village.board.letters(), "house", 0))
        self.assertEqual(village.houses[0].serves(), ALL[:6])
        self.assertEqual(told_to(village, 0, 2)[:2], (False, (1, 10, 1, 0)))


class Told(unittest.TestCase):
    """When a house tells an asker of an edition."""

    def setUp(self):
        self.village = settled_village(0, 5)
        self.village.come(9)
        self.assertEqual(self.village.board.edition()[2], (0, 0, 0, 0, 9, 9, 5, 5, 5, 5, 9, 9))

    def ask(self, slot, number):
        self.village.hear_all(ask_letters(self.village, 1, slot, 10, number))

    def test_if_it_has_not_the_slot_and_knows_a_later_one(self):
        self.ask(11, 1)
        self.assertEqual(told_to(self.village, 0, 1), (True, None, 2))
        self.village.hear_all(of_kind(self.village.board.letters(), "house", 5))
        self.ask(11, 2)
        self.assertEqual(told_to(self.village, 5, 1), (True, None, 3))
        self.assertEqual(self.village.houses[5].deeds(), [])

    def test_not_if_it_has_the_slot(self):
        self.ask(0, 1)
        self.assertEqual(told_to(self.village, 0, 1), (False, (1, 10, 1, 0), 1))

    def test_not_if_it_has_the_slot_and_holds(self):
        self.village.turn()
        self.village.settle()
        self.village.turn()
        self.village.hear_all(self.village.board.letters())
        self.assertEqual(self.village.houses[0].edition(), 6)
        self.ask(0, 1)
        self.assertEqual(told_to(self.village, 0, 1), (True, None, 1))

    def test_not_if_it_knows_none_later(self):
        self.village.hear_all(of_kind(self.village.board.letters(), "house", 9))
        self.ask(11, 3)
        self.assertEqual(of_kind(self.village.houses[9].letters(), "asker"), [])
        self.assertEqual(told_to(self.village, 9, 1), (True, None, 3))

    def test_not_if_the_asker_knows_a_later_one(self):
        self.ask(11, 3)
        self.assertEqual(self.village.houses[9].edition(), 0)
        self.assertEqual(of_kind(self.village.houses[9].letters(), "asker"), [])

    def test_a_house_that_is_gone_tells(self):
        self.village.farewell(0)
        self.village.settle()
        self.assertTrue(self.village.houses[0].is_gone())
        self.ask(0, 1)
        self.assertEqual(told_to(self.village, 0, 1), (True, None, 4))
        self.village.settle()
        self.assertEqual(self.village.askers[1].answer(), (1, 10, 1, 0))

    def test_while_all_hold_too(self):
        self.village.turn()
        self.village.settle()
        self.village.turn()
        self.village.hear_all(self.village.board.letters())
        self.ask(11, 1)
        self.assertEqual(told_to(self.village, 0, 1), (True, None, 6))

    def test_nobody_is_told_unasked(self):
        self.village.asker(1)
        for again in range(5):
            self.village.round()
            for house in self.village.houses.values():
                self.assertEqual(of_kind(house.letters(), "asker"), [])


class Letters(unittest.TestCase):
    def test_they_are_kind_name_and_what(self):
        village = settled_village(0, 5)
        village.come(9)
        village.asker(4).ask(11, 1)
        for again in range(4):
            for writer in village.writers():
                told = writer.letters()
                self.assertIsInstance(told, list)
                for kind, name, what in told:
                    self.assertIn(kind, ("board", "house", "asker"))
                    self.assertTrue(name == 0 or kind != "board")
            village.round()

    def test_asked_again_the_same_is_told(self):
        village = settled_village(0, 5)
        village.come(9)
        village.asker(4).ask(11, 1)
        for again in range(8):
            self.assertEqual(village.letters(), village.letters())
            self.assertEqual(village.view(), village.view())
            village.round()

    def test_lists_that_were_told_may_be_changed(self):
        village = settled_village(0, 5)
        village.asker(4)
        village.done(4, 11, 1)
        village.farewell(5)
        village.hear_all(of_kind(village.board.letters(), "house", 5))
        for house in village.houses.values():
            told, letters = copy.deepcopy(house_view(house)), copy.deepcopy(house.letters())
            for made in (house.letters(), house.serves(), house.slots(), house.deeds()):
                made.append(made[:])
                made.reverse()
                self.assertEqual((house_view(house), house.letters()), (told, letters))
                made.clear()
                self.assertEqual((house_view(house), house.letters()), (told, letters))

    def test_what_was_told_stays_as_it_was(self):
        village = settled_village(0)
        village.asker(4)
        house = village.houses[0]
        ahead = house_view(house)
        kept = copy.deepcopy(ahead)
        village.done(4, 11, 1)
        village.come(3)
        village.settle()
        self.assertEqual(ahead, kept)

    def test_houses_know_nothing_of_each_other(self):
        one, other = settled_village(0), settled_village(0)
        one.asker(4)
        one.done(4, 11, 1)
        self.assertEqual(house_view(other.houses[0]), (1, ALL, rows(ALL), [], False))


if __name__ == "__main__":
    unittest.main()
