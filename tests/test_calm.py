"""Point 10: how soon all is settled and answered, and that letters asked for again are the same."""

import random
import unittest

from tests.village import Village, settled_village


def rounds_to_calm(village, chance=None, most=1000):
    """How many rounds, in drawn orders, it takes till all is calm."""
    for done in range(most + 1):
        if village.is_calm():
            return done
        village.round(chance)
    raise AssertionError(f"not calm behind {most} rounds")


def chain(last_settled=True):
    """Twenty houses, of which each took all slots from the one ahead; an asker knows edition 1 only."""
    village = Village(0)
    village.asker(0)
    for house in range(1, 20):
        village.settle()
        village.come(house)
        village.settle()
        village.farewell(house - 1)
    if last_settled:
        village.settle()
    return village


class Soon(unittest.TestCase):
    def test_the_first_edition(self):
        self.assertEqual(rounds_to_calm(Village(0)), 2)

    def test_a_house_that_comes_or_goes(self):
        for change, house in ((Village.come, 9), (Village.farewell, 5)):
            village = settled_village(0, 5)
            change(village, house)
            self.assertLessEqual(rounds_to_calm(village), 4)

    def test_each_change_that_waits_takes_four_rounds_at_the_most(self):
        for seed in range(20):
            chance = random.Random(seed)
            village = settled_village(0)
            for house in range(1, 6):
                village.come(house)
            for leaver in (3, 0, 5):
                village.farewell(leaver)
                village.turn()
            waits = village.board.waiting()
            self.assertEqual(waits, 10)
            # Four rounds more for the change that was begun.
            self.assertLessEqual(rounds_to_calm(village, chance), 4 * waits + 4)

    def test_turns(self):
        for turns in range(1, 12):
            village = settled_village(0, 5)
            for turn in range(turns):
                village.turn()
            self.assertEqual(village.board.waiting(), turns)
            self.assertLessEqual(rounds_to_calm(village), 4 * turns)
            self.assertEqual(village.board.edition()[1], turns)

    def test_an_ask(self):
        village = settled_village(0, 5)
        village.asker(3, 2).ask(11, 1)
        self.assertEqual(rounds_to_calm(village), 2)
        village = settled_village(0, 5)
        village.asker(3, 1).ask(11, 1)
        self.assertEqual(rounds_to_calm(village), 4)

    def test_the_longest_way_from_house_to_house(self):
        for seed in range(5):
            village = chain()
            village.askers[0].ask(11, 99)
            self.assertLessEqual(rounds_to_calm(village, random.Random(seed), 40), 40)
            self.assertEqual(village.askers[0].answer(), (1, 99, 1, 0))
            self.assertEqual(len(village.houses[19].deeds()), 1)

    def test_the_longest_way_while_the_last_change_is_under_way(self):
        for seed in range(5):
            village = chain(last_settled=False)
            self.assertEqual((village.board.settled(), village.board.waiting()), (False, 0))
            village.askers[0].ask(0, -99)
            self.assertLessEqual(rounds_to_calm(village, random.Random(seed), 40), 40)
            self.assertEqual(village.askers[0].answer(), (1, 901, 1, 0))

    def test_the_longest_way_while_changes_wait(self):
        for seed in range(5):
            village = chain(last_settled=False)
            for turn in range(3):
                village.turn()
            village.askers[0].ask(0, -99)
            self.assertLessEqual(rounds_to_calm(village, random.Random(seed), 52), 52)

    def test_a_way_that_grows_while_it_is_gone(self):
        village = Village(0)
        village.asker(2)
        for house in range(1, 20):
            village.come(house)
            village.farewell(house - 1)
        village.askers[2].ask(5, 1)
        waits = village.board.waiting()
        self.assertEqual(waits, 38)
        village.deaf = {("asker", 2)}
        for done in range(4 * waits - 8):
            village.round(random.Random(done))
        village.deaf = set()
        most = 4 * village.board.waiting() + 40
        self.assertLessEqual(rounds_to_calm(village, random.Random(3), most), most)
        self.assertEqual(len([deed for house in village.houses.values() for deed in house.deeds()]), 1)

    def test_askers_with_books_of_all_editions(self):
        for seed in range(12):
            chance = random.Random(seed)
            village = settled_village(0, 5, 9)
            village.farewell(0)
            village.come(1)
            village.turn()
            village.settle()
            village.farewell(9)
            village.turn()
            for name in range(6):
                village.asker(name, chance.choice(sorted(village.editions)))
                village.askers[name].ask(chance.randrange(12), name)
            most = 4 * village.board.waiting() + 40
            self.assertLessEqual(rounds_to_calm(village, chance, most), most)
            self.assertEqual(sum(len(house.deeds()) for house in village.houses.values()), 6)


class Same(unittest.TestCase):
    def test_letters_asked_for_again(self):
        for seed in range(5):
            chance = random.Random(seed)
            village = settled_village(0, 5)
            village.come(9)
            village.turn()
            village.farewell(0)
            for name in range(6):
                village.asker(name).ask(2 * name, name)
            for done in range(20):
                letters = village.letters()
                self.assertEqual(village.letters(), letters)
                village.hear(chance.choice(letters))

    def test_calm_goes_on(self):
        """Behind all that, rounds change nothing more."""
        village = chain()
        village.askers[0].ask(11, 99)
        village.settle()
        told, letters = village.view(), None
        for again in range(5):
            letters = village.round()
            self.assertEqual(village.view(), told)
        self.assertEqual(village.letters(), letters)


class OneIsDeaf(unittest.TestCase):
    """A house that hears nothing for long stops nobody whose asks it need not do."""

    def check_answered(self, village, deaf, slots):
        """Asks of these slots are answered though the house hears nothing."""
        village.deaf = {("house", deaf)}
        edition = village.board.edition()
        for slot in slots:
            for name in range(6):
                village.askers[name].ask(slot, 1)
            for done in range(10):
                village.round()
            for name in range(6):
                self.assertFalse(village.askers[name].is_busy())
        self.assertEqual(village.board.edition(), edition)
        self.assertFalse(village.board.settled())
        self.assertEqual(sum(len(house.deeds()) for house in village.houses.values()), 6 * len(slots))
        village.deaf = set()
        village.settle()

    def with_askers(self, *houses):
        village = settled_village(*houses)
        for name in range(6):
            village.asker(name, village.board.edition()[0])
        return village

    def test_one_that_is_to_give(self):
        village = self.with_askers(0, 5, 9)
        owners = village.board.edition()[2]
        village.come(1)
        self.check_answered(village, 9, [slot for slot in range(12) if owners[slot] != 9])
        self.assertEqual(len(village.houses[9].slots()), 3)

    def test_one_that_is_to_take(self):
        village = self.with_askers(0, 5)
        village.come(1)
        owners = village.board.edition()[2]
        self.check_answered(village, 1, [slot for slot in range(12) if owners[slot] != 1])
        self.assertEqual(len(village.houses[1].slots()), 4)

    def test_one_that_says_farewell(self):
        village = self.with_askers(0, 5, 9)
        owners = village.board.edition()[2]
        village.farewell(5)
        village.come(2)
        self.check_answered(village, 5, [slot for slot in range(12) if owners[slot] != 5])
        self.assertTrue(village.houses[5].is_gone())

    def test_an_asker_that_hears_nothing(self):
        village = self.with_askers(0, 5)
        village.askers[3].ask(4, 9)
        village.hear_all(village.askers[3].letters())
        village.deaf = {("asker", 3)}
        village.farewell(0)
        village.come(8)
        village.farewell(5)
        self.assertLessEqual(rounds_to_calm(village), 12)
        self.assertEqual(village.done(2, 4, 1), (1, 10, 2, 0))
        village.deaf = set()
        village.settle()
        self.assertEqual(village.askers[3].answer(), (1, 9, 1, 0))


if __name__ == "__main__":
    unittest.main()
