"""Points 1 and 2: shared."""

import copy
import random
import unittest

from drainhouse.errors import BadEdition, BadHouse
from drainhouse.shares import shared
from tests.even import all_even, best_of_all, is_even, moved

# The largest number that may be handed in: twenty figures.
FAR = 10 ** 20 - 1


def some_owners(chance, names):
    """Twelve owners among these names, some of them often."""
    few = chance.sample(names, chance.randint(1, min(8, len(names))))
    return tuple(chance.choice(few) for slot in range(12))


def some_inputs(seed, many, least, most):
    """Many pairs of owners and houses, from least to most of them; few names, so that owners are houses often."""
    chance = random.Random(seed)
    for turn in range(many):
        names = range(20) if turn % 4 == 0 else sorted(chance.sample(range(20), 8))
        yield some_owners(chance, names), sorted(chance.sample(names, chance.randint(least, most)))


class SharedByHand(unittest.TestCase):
    def test_one_house_has_all(self):
        self.assertEqual(shared((0,) * 12, [0]), (0,) * 12)
        self.assertEqual(shared((0,) * 12, [19]), (19,) * 12)
        self.assertEqual(shared((0, 19) * 6, [19]), (19,) * 12)

    def test_a_second_house(self):
        self.assertEqual(shared((0,) * 12, [0, 19]), (0,) * 6 + (19,) * 6)
        self.assertEqual(shared((19,) * 12, [0, 19]), (0,) * 6 + (19,) * 6)

    def test_a_third_house_takes_two_of_each(self):
        owners = (0,) * 6 + (5,) * 6
        self.assertEqual(shared(owners, [0, 3, 5]), (0, 0, 0, 0, 3, 3, 3, 3, 5, 5, 5, 5))
        self.assertEqual(shared(owners, [0, 5, 9]), (0, 0, 0, 0, 9, 9, 5, 5, 5, 5, 9, 9))

    def test_five_houses_of_which_two_have_one_more(self):
        self.assertEqual(shared((7,) * 12, [1, 3, 5, 7, 9]), (1, 1, 1, 3, 3, 5, 5, 7, 7, 7, 9, 9))

    def test_the_larger_shares_go_where_slots_stay(self):
        owners = (9, 9, 9, 9, 7, 7, 7, 7, 5, 5, 3, 1)
        self.assertEqual(shared(owners, [1, 3, 5, 7, 9]), (1, 9, 9, 9, 3, 7, 7, 7, 5, 5, 3, 1))

    def test_six_houses(self):
        self.assertEqual(shared((2,) * 12, [0, 1, 2, 3, 4, 19]), (0, 0, 1, 1, 2, 2, 3, 3, 4, 4, 19, 19))

    def test_owners_that_are_no_houses_any_more(self):
        owners = (0, 0, 0, 0, 1, 1, 1, 1, 2, 2, 2, 2)
        self.assertEqual(shared(owners, [0, 2]), (0, 0, 0, 0, 0, 0, 2, 2, 2, 2, 2, 2))
        self.assertEqual(shared(owners, [10, 11]), (10,) * 6 + (11,) * 6)
        self.assertEqual(shared(owners, [2, 4]), (2, 2, 4, 4, 4, 4, 4, 4, 2, 2, 2, 2))

    def test_owners_that_are_even_already_stay(self):
        for owners, houses in (
            ((4,) * 12, [4]),
            ((8, 1) * 6, [1, 8]),
            ((8, 1, 0) * 4, [0, 1, 8]),
            ((19, 8, 1, 0) * 3, [0, 1, 8, 19]),
            ((5, 4, 3, 2, 1) * 2 + (1, 5), [1, 2, 3, 4, 5]),
            ((5, 4, 3, 2, 1, 0) * 2, [0, 1, 2, 3, 4, 5]),
        ):
            with self.subTest(houses=houses):
                self.assertEqual(shared(owners, houses), owners)


class SharedAgainstAllEven(unittest.TestCase):
    def check_against_all_even(self, owners, houses):
        told = shared(owners, houses)
        self.assertTrue(is_even(told, houses), (owners, houses, told))
        best = min((moved(owners, others), others) for others in all_even(houses))
        self.assertEqual((moved(owners, told), told), best, (owners, houses))

    def test_up_to_three_houses(self):
        for owners, houses in some_inputs(1, 300, 1, 2):
            self.check_against_all_even(owners, houses)
        for owners, houses in some_inputs(2, 25, 3, 3):
            self.check_against_all_even(owners, houses)

    def test_four_houses(self):
        for owners, houses in some_inputs(3, 3, 4, 4):
            self.check_against_all_even(owners, houses)

    def test_up_to_six_houses(self):
        for owners, houses in some_inputs(4, 700, 1, 6):
            told = shared(owners, houses)
            self.assertTrue(is_even(told, houses), (owners, houses, told))
            self.assertEqual((moved(owners, told), told), best_of_all(owners, houses), (owners, houses))

    def test_what_was_shared_is_shared_on(self):
        chance = random.Random(5)
        for game in range(40):
            houses = [chance.randrange(20)]
            owners = (houses[0],) * 12
            for step in range(10):
                houses = sorted(chance.sample(range(20), chance.randint(1, 6)))
                told = shared(owners, houses)
                self.assertEqual((moved(owners, told), told), best_of_all(owners, houses), (owners, houses))
                self.assertEqual(shared(told, houses), told)
                owners = told


class SharedRefuses(unittest.TestCase):
    BAD_OWNERS = (
        (), (0,) * 11, (0,) * 13, (0,) * 11 + (20,), (-1,) + (0,) * 11, (0,) * 5 + (None,) + (0,) * 6,
        (None,) * 12, (FAR,) * 12, (0,) * 11 + (-FAR,),
    )
    BAD_HOUSES = (
        [], [0, 1, 2, 3, 4, 5, 6], list(range(20)), [20], [-1], [0, 20], [-1, 0], [1, 0], [3, 3], [0, 2, 1],
        [0, 1, 1], [FAR], [-FAR, 0], [0, 1, 2, 3, 4, FAR],
    )

    def test_owners(self):
        for owners in self.BAD_OWNERS:
            with self.subTest(owners=owners), self.assertRaises(BadEdition):
                shared(owners, [0])

    def test_houses(self):
        for houses in self.BAD_HOUSES:
            with self.subTest(houses=houses), self.assertRaises(BadHouse):
                shared((0,) * 12, houses)

    def test_true_and_false_are_no_numbers(self):
        with self.assertRaises(BadEdition):
            shared((True,) + (0,) * 11, [0])
        with self.assertRaises(BadHouse):
            shared((0,) * 12, [False, True])

    def test_what_is_handed_in_first_is_refused(self):
        for owners in self.BAD_OWNERS:
            for houses in self.BAD_HOUSES:
                with self.assertRaises(BadEdition):
                    shared(owners, houses)

    def test_the_last_ones_that_stand(self):
        self.assertEqual(shared((19,) * 12, [19]), (19,) * 12)
        self.assertEqual(shared((0,) * 12, [0]), (0,) * 12)
        self.assertEqual(len(shared((19,) * 12, [14, 15, 16, 17, 18, 19])), 12)


class SharedKeepsNothing(unittest.TestCase):
    def test_what_is_handed_in_is_not_changed(self):
        for owners, houses in some_inputs(6, 50, 1, 6):
            handed = copy.deepcopy(houses)
            shared(owners, handed)
            self.assertEqual(handed, houses)

    def test_refused_houses_are_not_changed(self):
        for houses in SharedRefuses.BAD_HOUSES:
            handed = copy.deepcopy(houses)
            with self.assertRaises(BadHouse):
                shared((0,) * 12, handed)
            self.assertEqual(handed, houses)

    def test_asked_again_the_same_is_told(self):
        houses = [0, 7, 19]
        told = shared((0,) * 12, houses)
        houses[1] = 8
        self.assertEqual(told, (0,) * 4 + (7,) * 4 + (19,) * 4)
        self.assertEqual(shared((0,) * 12, [0, 7, 19]), told)
        self.assertEqual(shared((0,) * 12, houses), (0,) * 4 + (8,) * 4 + (19,) * 4)
        self.assertIsInstance(told, tuple)


if __name__ == "__main__":
    unittest.main()
