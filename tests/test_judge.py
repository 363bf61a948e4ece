"""Points 1 and 13: which deeds can be."""

import copy
import random
import unittest

from drainhouse.judge import judge
from tests.drawn import deeds_of, drawn_deeds, drawn_world, spoilt_deeds
from tests.own_judge import own_judge


def row_of(*asks):
    """Deeds that can be, of (slot, asker, more, make)."""
    deeds = []
    for slot, asker, more, make in asks:
        ahead = [deed for deed in deeds if deed[0] == slot]
        worth = (sum(deed[4] for deed in ahead) + more) % 1000
        number = len([deed for deed in deeds if deed[2] == asker]) + 1
        deeds.append((slot, len(ahead) + 1, asker, number, more, worth, make))
    return deeds


LONG = row_of(*[(at % 12, at % 5, at - 50, at // 40) for at in range(101)])


class Let(unittest.TestCase):
    def check_let(self, deeds):
        self.assertIsNone(judge(deeds))

    def test_none_at_all(self):
        self.check_let([])

    def test_one(self):
        self.check_let([(0, 1, 0, 1, 5, 5, 0)])
        self.check_let([(11, 1, 5, 1, 0, 0, 0)])
        self.check_let([(11, 1, 5, 1, -1, 999, 1000000)])

    def test_first_and_last_slots_and_askers(self):
        self.check_let([
            (0, 1, 0, 1, 99, 99, 0), (11, 1, 5, 1, -99, 901, 0), (0, 2, 5, 2, 99, 198, 0), (11, 2, 0, 2, -99, 802, 0),
        ])

    def test_an_asker_asks_in_several_slots(self):
        self.check_let([(slot, 1, 3, slot + 1, slot, slot, 0) for slot in range(12)])

    def test_a_slot_is_asked_by_several(self):
        self.check_let([(7, asker + 1, asker, 1, 1, asker + 1, 0) for asker in range(6)])

    def test_a_worth_below_0_and_over_999(self):
        self.check_let([(4, 1, 0, 1, -1, 999, 0), (4, 2, 0, 2, 1, 0, 0), (4, 3, 0, 3, -99, 901, 0)])
        rows = [(4, at, 0, at, 99, 99 * at % 1000, 0) for at in range(1, 25)]
        self.assertEqual([row[5] for row in rows[9:12]], [990, 89, 188])
        self.check_let(rows)
        self.check_let([(4, at, 0, at, -99, -99 * at % 1000, 0) for at in range(1, 25)])

    def test_just_1000_is_0(self):
        rows = [(4, at, 0, at, 50, 50 * at % 1000, 0) for at in range(1, 21)]
        self.assertEqual(rows[-1][5], 0)
        self.check_let(rows)

    def test_makes_that_stay_and_rise(self):
        makes = (0, 0, 1, 1, 1, 7, 1000000)
        self.check_let([(2, at + 1, 1, at + 1, 0, 0, make) for at, make in enumerate(makes)])

    def test_101_deeds(self):
        self.assertEqual((len(LONG), own_judge(LONG)), (101, None))
        self.check_let(LONG)


class NotLet(unittest.TestCase):
    ROW = row_of((3, 0, 50, 1), (3, 1, -99, 1), (8, 0, 7, 2), (3, 0, 99, 2))

    def check_parts(self, place, part, *others):
        """The deed at this place can't be, with this part told otherwise."""
        self.assertIsNone(judge(self.ROW))
        for other in others:
            deeds = list(self.ROW)
            deeds[place] = (*deeds[place][:part], other, *deeds[place][part + 1:])
            with self.subTest(deed=deeds[place]):
                self.assertEqual(judge(deeds), place)

    def test_counts(self):
        self.check_parts(0, 1, 0, 2, -1, 1000001)
        self.check_parts(1, 1, 1, 3, 0)
        self.check_parts(2, 1, 0, 2, 3)
        self.check_parts(3, 1, 1, 2, 4)

    def test_worths(self):
        self.check_parts(0, 5, 0, 49, 51, 1050, -950)
        self.check_parts(1, 5, 50, 901, -49, 1951)
        self.check_parts(2, 5, 0, 957, 958, 58)
        self.check_parts(3, 5, 951, 99, 49, 51, 1050)

    def test_mores(self):
        self.check_parts(0, 4, 49, 51, -50)
        self.check_parts(3, 4, -99, 0, 98)

    def test_numbers(self):
        self.check_parts(0, 3, 0, 2, -1)
        self.check_parts(1, 3, 0, 2)
        self.check_parts(2, 3, 1, 3)
        self.check_parts(3, 3, 1, 2, 4)

    def test_makes(self):
        self.check_parts(0, 6, -1)
        self.check_parts(1, 6, 0, -1)
        self.check_parts(2, 6, 0)
        self.check_parts(3, 6, 0, 1)

    def test_slots_and_askers(self):
        self.check_parts(1, 0, 0, 8, 11)
        self.check_parts(3, 0, 8, 4)
        self.check_parts(1, 2, 0)
        self.check_parts(3, 2, 1, 5)

    def test_a_make_is_held_against_all_slots_and_askers(self):
        self.assertEqual(judge([(0, 1, 0, 1, 1, 1, 1), (11, 1, 5, 1, 1, 1, 0)]), 1)

    def test_of_several_the_first(self):
        deeds = list(self.ROW)
        for place in (3, 2, 1, 0):
            deeds[place] = (*deeds[place][:5], 500, 0)
            self.assertEqual(judge(deeds), place)

    def test_what_is_behind_does_not_matter(self):
        self.assertEqual(judge([(0, 1, 0, 1, 1, 1, 0), (0, 3, 0, 3, 1, 3, 0), (0, 2, 0, 2, 1, 2, 0)]), 1)

    def test_what_cannot_be_first(self):
        for deed in LONG[1:]:
            can_be = deed[1] == 1 and deed[3] == 1
            self.assertEqual(judge([deed]), None if can_be else 0)

    def test_the_last_of_101(self):
        slot, count, asker, number, more, worth, make = LONG[-1]
        for last in (
            (slot, count + 1, asker, number, more, worth, make), (slot, count, asker, number - 1, more, worth, make),
            (slot, count, asker, number, more, worth + 1, make), (slot, count, asker, number, more, worth, make - 1),
        ):
            self.assertEqual(judge([*LONG[:-1], last]), 100)


class Drawn(unittest.TestCase):
    def test_deeds_of_worlds(self):
        for seed in range(30):
            deeds = deeds_of(drawn_world(seed, random.Random(seed).choice((1, 20, 100))))
            with self.subTest(seed=seed):
                self.assertIsNone(judge(deeds))
                self.assertIsNone(own_judge(deeds))
                self.check_spoilt(random.Random(seed), deeds)

    def check_spoilt(self, chance, deeds):
        for again in range(40):
            spoilt = spoilt_deeds(chance, deeds)
            self.assertEqual(judge(spoilt), own_judge(spoilt), spoilt)

    def test_drawn_deeds(self):
        found = set()
        for seed in range(300):
            chance = random.Random(seed)
            deeds = drawn_deeds(chance, chance.randint(1, 12), (0, 11), (0, 5))
            self.assertIsNone(judge(deeds))
            for spoiling in range(chance.randrange(4)):
                deeds = spoilt_deeds(chance, deeds or [(0, 1, 0, 1, 0, 0, 0)])
            with self.subTest(seed=seed):
                self.assertEqual(judge(deeds), own_judge(deeds))
            found.add(judge(deeds))
        # So that deeds are let and refused, at many places.
        self.assertGreater(len(found), 8)


class HandedIn(unittest.TestCase):
    def test_the_list_stays_and_may_be_changed(self):
        for deeds in ([], list(LONG), list(NotLet.ROW), [*LONG[:7], LONG[3]]):
            kept = copy.deepcopy(deeds)
            told = judge(deeds)
            self.assertEqual(deeds, kept)
            deeds.clear()
            self.assertIsNone(judge(deeds))
            self.assertEqual(judge(kept), told)

    def test_one_call_knows_nothing_of_another(self):
        for again in range(3):
            self.assertIsNone(judge(NotLet.ROW))
            self.assertEqual(judge(NotLet.ROW[1:]), 0)


if __name__ == "__main__":
    unittest.main()
