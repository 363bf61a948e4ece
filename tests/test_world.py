"""Points 1, 11 and 12: worlds."""

import copy
import random
import unittest

from drainhouse.errors import (
    BadAsk, BadAsker, BadCount, BadHouse, Busy, DrainError, Known, LastHouse, NoHouse, NoLetter, TooMany,
)
from drainhouse.world import World
from tests.drawn import done, drawn_step
from tests.own_world import OwnWorld, world_view
from tests.village import BAD_ASKERS, BAD_HOUSES, BAD_MORES, BAD_SLOTS, FAR

ALL = list(range(12))


def settled_world(*houses):
    world = World(houses[0])
    for house in houses[1:]:
        world.come(house)
    world.settle(99)
    return world


class NewWorld(unittest.TestCase):
    def test_nothing_was_done(self):
        for first in (0, 7, 19):
            world = World(first)
            self.assertEqual(world_view(world), ([], [], (1, 0, (first,) * 12), [], [], [], False))

    def test_no_house(self):
        for first in BAD_HOUSES:
            with self.subTest(first=first), self.assertRaises(BadHouse):
                World(first)

    def test_the_first_edition_is_settled(self):
        world = World(7)
        self.assertEqual(world.settle(99), 2)
        rows = [(slot, 0, 0) for slot in ALL]
        self.assertEqual(world_view(world), ([], [], (1, 0, (7,) * 12), [(7, ALL)], [], rows, True))


class Road(unittest.TestCase):
    def test_letters_lie_in_a_row_board_houses_askers(self):
        world, own = World(9), OwnWorld(9)
        for made in (world, own):
            made.settle(99)
            made.come(2)
            made.ask(5, 0, 1)
            made.ask(0, 11, 2)
        self.assertEqual(world.send(), own.send())
        self.assertEqual([letter[:2] for letter in own.road], [
            ("house", 2), ("house", 9), ("board", 0), ("house", 9), ("house", 9),
        ])
        # What the last two on the road ask tells whose they are.
        world.carry(4)
        self.assertEqual([deed[1][2] for deed in world.deeds()], [5])
        world.carry(3)
        self.assertEqual([deed[1][2] for deed in world.deeds()], [5, 0])

    def test_carry_takes_it_off(self):
        world = World(3)
        self.assertEqual(world.send(), 1)
        world.carry(0)
        self.assertEqual(world.serving(), [(3, ALL)])
        self.assertRaises(NoLetter, world.carry, 0)
        # The board writes still, and now the house does, too.
        self.assertEqual(world.send(), 2)
        world.carry(1)
        self.assertTrue(world.is_still())
        self.assertEqual(world.send(), 2)

    def test_twice_lets_it_lie(self):
        world = World(3)
        world.send()
        for again in range(3):
            world.twice(0)
            self.assertEqual(world.serving(), [(3, ALL)])
        world.carry(0)
        self.assertRaises(NoLetter, world.twice, 0)

    def test_lose_takes_it_off_unheard(self):
        world = World(3)
        world.send()
        world.lose(0)
        self.assertEqual(world.serving(), [])
        self.assertRaises(NoLetter, world.lose, 0)
        self.assertEqual(world.send(), 1)

    def test_what_is_sent_lies_behind(self):
        world = settled_world(3)
        world.ask(0, 4, 1)
        many = world.send()
        self.assertGreaterEqual(many, 2)
        self.assertEqual(world.send(), 2 * many)
        self.assertEqual(world.send(), 3 * many)
        for place in (3 * many - 1, 2 * many - 1, many - 1):
            world.carry(place)
            self.assertEqual(len(world.deeds()), 1)
        self.assertRaises(NoLetter, world.carry, 3 * many - 3)

    def test_first_and_last_place(self):
        world = settled_world(3)
        for asker in range(6):
            world.ask(asker, asker, asker)
        many = world.send()
        for act in (world.carry, world.twice, world.lose):
            for place in (many, -1, FAR, -FAR, True, False):
                self.assertRaises(NoLetter, act, place)
        world.twice(many - 1)
        self.assertEqual(world.deeds(), [(3, (5, 1, 5, 1, 5, 5, 0))])
        world.lose(many - 1)
        self.assertRaises(NoLetter, world.twice, many - 1)
        world.carry(many - 2)
        self.assertEqual(world.deeds()[1:], [(3, (4, 1, 4, 1, 4, 4, 0))])
        world.lose(0)
        for place in range(many - 3):
            world.carry(0)
        self.assertEqual(len(world.deeds()), 6)
        self.assertRaises(NoLetter, world.carry, 0)

    def test_an_empty_road(self):
        for world in (World(3), settled_world(3)):
            ahead = world_view(world)
            for act in (world.carry, world.twice, world.lose):
                for place in (0, 1, -1, FAR):
                    self.assertRaises(NoLetter, act, place)
            self.assertEqual(world_view(world), ahead)


class Settle(unittest.TestCase):
    def test_bad_counts(self):
        world = World(3)
        ahead = world_view(world)
        for most in (-1, 100, FAR, -FAR, True, False):
            with self.subTest(most=most), self.assertRaises(BadCount):
                world.settle(most)
        self.assertEqual(world_view(world), ahead)
        self.assertRaises(NoLetter, world.lose, 0)

    def test_never(self):
        world = World(3)
        ahead = world_view(world)
        self.assertEqual(world.settle(0), 0)
        self.assertEqual(world_view(world), ahead)
        self.assertRaises(NoLetter, world.lose, 0)

    def test_so_often_at_the_most(self):
        world = World(3)
        self.assertEqual(world.settle(1), 1)
        self.assertFalse(world.is_still())
        self.assertEqual(world.settle(99), 1)
        self.assertTrue(world.is_still())

    def test_it_ends_when_all_is_still(self):
        world = settled_world(3)
        self.assertEqual(world.settle(99), 0)
        world.send()
        self.assertEqual(world.settle(99), 0)
        self.assertGreater(world.send(), 1)

    def test_all_on_the_road_is_heard(self):
        world = World(3)
        world.ask(0, 4, 1)
        world.send()
        world.send()
        self.assertEqual(world.settle(1), 1)
        self.assertRaises(NoLetter, world.carry, 0)
        self.assertEqual(world.settle(99), 1)

    def test_the_first_one_first(self):
        world = settled_world(3)
        for asker in (4, 1, 3):
            world.ask(asker, 7, asker)
        world.settle(1)
        self.assertEqual([deed[2] for house, deed in world.deeds()], [1, 3, 4])

    def test_still(self):
        world = settled_world(3)
        self.assertTrue(world.is_still())
        world.ask(0, 4, 1)
        self.assertFalse(world.is_still())
        world.settle(99)
        self.assertTrue(world.is_still())
        for change in (lambda: world.come(5), world.turn, lambda: world.farewell(3)):
            change()
            self.assertFalse(world.is_still())
            self.assertGreater(world.settle(99), 0)
            self.assertTrue(world.is_still())

    def test_many_changes(self):
        world = World(0)
        for house in range(1, 20):
            world.come(house)
            world.farewell(house - 1)
        world.ask(2, 5, 1)
        self.assertEqual((world.settle(99), world.is_still()), (99, False))
        rounds = 99 + world.settle(99)
        self.assertTrue(world.is_still())
        self.assertLessEqual(rounds, 4 * 38 + 40)
        self.assertEqual(world.edition(), (39, 0, (19,) * 12))
        self.assertEqual(world.gone(), list(range(19)))
        self.assertEqual([deed for house, deed in world.deeds()], [(5, 1, 2, 1, 1, 1, 0)])


class Asking(unittest.TestCase):
    def test_numbers(self):
        world = settled_world(3)
        self.assertEqual([world.ask(asker, 0, -99) for asker in (0, 5)], [1, 1])
        world.settle(99)
        self.assertEqual([world.ask(asker, 11, 99) for asker in (0, 5)], [2, 2])
        world.settle(99)
        self.assertEqual(world.deeds(), [
            (3, (0, 1, 0, 1, -99, 901, 0)), (3, (0, 2, 5, 1, -99, 802, 0)),
            (3, (11, 1, 0, 2, 99, 99, 0)), (3, (11, 2, 5, 2, 99, 198, 0)),
        ])
        self.assertEqual(world.answered(), [
            (0, (1, 901, 1, 0)), (5, (1, 802, 2, 0)), (0, (2, 99, 1, 0)), (5, (2, 198, 2, 0)),
        ])

    def test_edition_1_is_its_book(self):
        """A later asker begins with edition 1, too, so its ask is sent to the first house."""
        world = settled_world(3, 5)
        world.farewell(3)
        world.settle(99)
        world.ask(0, 11, 1)
        # The ask is heard by 3, the book by the asker, the ask by 5, the answer by the asker.
        self.assertEqual(world.settle(99), 4)
        self.assertEqual(world.deeds(), [(5, (11, 1, 0, 1, 1, 1, 0))])

    def test_answers_as_they_came(self):
        world = settled_world(3)
        world.ask(5, 0, 1)
        world.ask(0, 0, 1)
        for place in range(world.send() - 1, -1, -1):
            world.carry(place)
        many = world.send()
        for place in range(many - 1, -1, -1):
            world.carry(place)
        self.assertEqual([deed[2] for house, deed in world.deeds()], [5, 0])
        self.assertEqual(world.answered(), [(5, (1, 1, 1, 0)), (0, (1, 2, 2, 0))])

    def test_heard_again_tells_nothing_more(self):
        world = settled_world(3)
        world.ask(5, 0, 1)
        for again in range(3):
            for place in range(world.send()):
                world.twice(place)
        self.assertEqual(world.deeds(), [(3, (0, 1, 5, 1, 1, 1, 0))])
        self.assertEqual(world.answered(), [(5, (1, 1, 1, 0))])


class Refusals(unittest.TestCase):
    def check_refused(self, world, refusal, act, *handed):
        ahead = copy.deepcopy(world_view(world))
        with self.assertRaises(DrainError) as caught:
            act(*handed)
        self.assertIs(caught.exception.__class__, refusal)
        self.assertEqual(world_view(world), ahead)

    def test_those_of_the_board(self):
        world = World(0)
        for house in BAD_HOUSES:
            self.check_refused(world, BadHouse, world.come, house)
            self.check_refused(world, BadHouse, world.farewell, house)
        self.check_refused(world, Known, world.come, 0)
        self.check_refused(world, LastHouse, world.farewell, 0)
        self.check_refused(world, NoHouse, world.farewell, 1)
        for house in range(1, 6):
            world.come(house)
        self.check_refused(world, Known, world.come, 5)
        self.check_refused(world, TooMany, world.come, 6)
        world.farewell(0)
        self.check_refused(world, NoHouse, world.farewell, 0)
        self.check_refused(world, Known, world.come, 0)
        world.come(19)
        world.settle(99)
        self.check_refused(world, TooMany, world.come, 7)
        self.assertEqual(sorted(set(world.edition()[2])), [1, 2, 3, 4, 5, 19])

    def test_a_house_that_is_known_is_not_made_anew(self):
        world = settled_world(0, 5)
        ahead = copy.deepcopy(world_view(world))
        self.check_refused(world, Known, world.come, 5)
        self.assertEqual((world.send(), world_view(world)), (len(OwnRoad(0, 5).road), ahead))

    def test_asks(self):
        world = settled_world(3)
        for asker in BAD_ASKERS:
            for slot in (0, 12):
                for more in (0, 100):
                    self.check_refused(world, BadAsker, world.ask, asker, slot, more)
        for slot in BAD_SLOTS:
            self.check_refused(world, BadAsk, world.ask, 0, slot, 0)
        for more in BAD_MORES:
            self.check_refused(world, BadAsk, world.ask, 0, 0, more)
        many = world.send()
        self.assertEqual(world.ask(0, 0, 0), 1)
        self.check_refused(world, Busy, world.ask, 0, 0, 0)
        self.check_refused(world, BadAsk, world.ask, 0, 12, 0)
        self.check_refused(world, BadAsk, world.ask, 0, 0, -100)
        self.assertEqual(world.send(), 2 * many + 1)
        world.ask(1, 0, 0)
        world.settle(99)
        # Also while Python could take them for askers that are there.
        self.check_refused(world, BadAsker, world.ask, True, 0, 0)
        self.check_refused(world, BadAsker, world.ask, False, 0, 0)
        self.assertEqual(world.ask(0, 0, 0), 2)


class OwnRoad(OwnWorld):
    """An own world with these houses, settled, that sent once."""

    def __init__(self, *houses):
        super().__init__(houses[0])
        for house in houses[1:]:
            self.come(house)
        self.settle(99)
        self.send()


class Told(unittest.TestCase):
    def test_serving_gone_and_worths(self):
        world = settled_world(3, 9)
        world.ask(1, 0, 7)
        world.settle(99)
        self.assertEqual(world.serving(), [(3, ALL[:6]), (9, ALL[6:])])
        self.assertEqual((world.gone(), world.worths()[:2]), ([], [(0, 7, 1), (1, 0, 0)]))
        world.farewell(3)
        # The board's letters lie first: only 3 hears of edition 3, so its slots lie at no house.
        world.send()
        world.carry(0)
        self.assertEqual(world.edition(), (3, 0, (9,) * 12))
        self.assertEqual(world.serving(), [(9, ALL[6:])])
        self.assertEqual((world.gone(), world.worths()), ([], [(slot, 0, 0) for slot in ALL[6:]]))
        world.settle(99)
        self.assertEqual(world.serving(), [(9, ALL)])
        self.assertEqual((world.gone(), world.worths()[0]), ([3], (0, 7, 1)))
        world.turn()
        world.settle(1)
        self.assertEqual((world.edition()[1], world.serving(), len(world.worths())), (None, [], 12))
        world.settle(99)
        self.assertEqual((world.edition()[:2], world.serving()), ((5, 1), [(9, ALL)]))

    def test_lists_that_were_told_may_be_changed(self):
        world = settled_world(3, 9)
        world.ask(1, 0, 7)
        world.settle(99)
        world.farewell(3)
        world.settle(99)
        kept = copy.deepcopy(world_view(world))
        for told in (world.deeds, world.answered, world.serving, world.gone, world.worths):
            told().append(None)
            self.assertEqual(world_view(world), kept)
            told().clear()
            self.assertEqual(world_view(world), kept)
        for house, slots in world.serving():
            slots.clear()
            self.assertEqual(world_view(world), kept)

    def test_what_was_told_stays_as_it_was(self):
        world = settled_world(3)
        ahead = world_view(world)
        kept = copy.deepcopy(ahead)
        world.ask(1, 0, 7)
        world.come(9)
        world.turn()
        world.settle(99)
        self.assertEqual(ahead, kept)
        self.assertNotEqual(world_view(world), kept)


class Steps(unittest.TestCase):
    """A world, step by step, against one that the test puts together itself."""

    def own_done(self, own, step):
        """The same of an own world, whose places and counts are looked at here."""
        name, *handed = step
        if name in ("carry", "twice", "lose") and not 0 <= handed[0] < len(own.road):
            return NoLetter
        if name == "settle" and not 0 <= handed[0] <= 99:
            return BadCount
        return done(own, step)

    def test_many_steps(self):
        answered = 0
        for seed in range(40):
            chance = random.Random(seed)
            first = chance.choice((0, 19, chance.randrange(20)))
            world, own = World(first), OwnWorld(first)
            with self.subTest(seed=seed):
                for turn in range(150):
                    step = drawn_step(chance)
                    self.assertEqual(done(world, step), self.own_done(own, step), step)
                    self.assertEqual(world_view(world), own.view(), step)
                for world_or_own in (world, own):
                    world_or_own.settle(99)
                self.assertEqual(world_view(world), own.view())
                answered += len(world.answered())
        self.assertGreater(answered, 200)

    def test_two_worlds_in_turn(self):
        for seed in range(20):
            chance = random.Random(seed)
            steps = [drawn_step(chance) for turn in range(120)]
            one, other, alone = World(3), World(3), World(3)
            told = []
            for step in steps:
                told.append((done(one, step), world_view(one)))
                done(other, drawn_step(chance))
                for made in world_view(other)[:2]:
                    made.clear()
            self.assertEqual([(done(alone, step), world_view(alone)) for step in steps], told)

    def test_asked_again_the_same_is_told(self):
        chance = random.Random(1)
        world = World(3)
        for turn in range(200):
            done(world, drawn_step(chance))
            self.assertEqual(world_view(world), world_view(world))


if __name__ == "__main__":
    unittest.main()
