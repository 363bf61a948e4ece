"""Points 1 and 14: the deeds of several houses in one row."""

import copy
import random
import unittest

from drainhouse.judge import judge
from drainhouse.merge import in_one
from tests.drawn import dealt, drawn_deeds, drawn_world, rows_of, spoilt_deeds, spoilt_part
from tests.own_judge import first_of_all, is_first, must_wait, own_judge

# Two asks of asker 0, and one of asker 1, in two slots.
A1, A2, B1 = (0, 1, 0, 1, 5, 5, 0), (0, 2, 0, 2, 5, 10, 0), (1, 1, 1, 1, 7, 7, 0)


def long_deeds(chance):
    """101 deeds in all slots, by all askers."""
    return drawn_deeds(chance, 101, range(12), range(6))


class FewDeeds(unittest.TestCase):
    def test_no_rows(self):
        self.assertEqual(in_one([]), [])

    def test_empty_rows(self):
        for many in (1, 2, 20):
            self.assertEqual(in_one([[] for place in range(many)]), [])

    def test_one_row(self):
        self.assertEqual(in_one([[A1, B1, A2]]), [(0, A1), (0, B1), (0, A2)])

    def test_empty_rows_keep_their_places(self):
        self.assertEqual(in_one([[], [A2], [], [A1], []]), [(3, A1), (1, A2)])

    def test_of_several_the_first(self):
        self.assertEqual(in_one([[A1, A2], [B1]]), [(0, A1), (0, A2), (1, B1)])
        self.assertEqual(in_one([[B1], [A1, A2]]), [(0, B1), (1, A1), (1, A2)])
        self.assertEqual(in_one([[A2], [B1], [A1]]), [(1, B1), (2, A1), (0, A2)])
        self.assertEqual(in_one([[A2], [A1], [B1]]), [(1, A1), (0, A2), (2, B1)])

    def test_each_house_in_turn(self):
        self.assertEqual(in_one([[A2], [B1, A1]]), [(1, B1), (1, A1), (0, A2)])
        self.assertIsNone(in_one([[A2, A1]]))
        self.assertIsNone(in_one([[A2, B1], [(1, 2, 1, 2, 0, 7, 0), A1]]))

    def test_by_slots_alone(self):
        last, first = (0, 2, 1, 1, 5, 10, 0), (0, 1, 0, 1, 5, 5, 0)
        self.assertEqual(in_one([[last], [first]]), [(1, first), (0, last)])

    def test_by_askers_alone(self):
        last, first = (0, 1, 1, 2, 5, 5, 0), (1, 1, 1, 1, 5, 5, 0)
        self.assertEqual(in_one([[last], [first]]), [(1, first), (0, last)])

    def test_by_makes_alone(self):
        last, first = (0, 1, 0, 1, 5, 5, 1), (1, 1, 1, 1, 5, 5, 0)
        self.assertEqual(in_one([[last], [first]]), [(1, first), (0, last)])
        self.assertEqual(in_one([[first], [last]]), [(0, first), (1, last)])
        self.assertIsNone(in_one([[last, first]]))

    def test_a_lesser_make_that_lies_deep(self):
        """The first house waits for the make that stands last at the other one."""
        late = (2, 1, 2, 1, 1, 1, 1)
        self.assertEqual(in_one([[late], [A1, B1, A2]]), [(1, A1), (1, B1), (1, A2), (0, late)])
        self.assertIsNone(in_one([[A1], [late, B1]]))

    def test_none_is_let(self):
        for rows in (
            [[A2]], [[A1], [A1]], [[A1, A1]], [[A1], [(0, 2, 0, 2, 5, 11, 0)]], [[], [(0, 1, 0, 1, 5, 5, -1)]],
            [[(0, 1, 0, 2, 5, 5, 0)]], [[(0, 2, 0, 1, 5, 5, 0)]], [[A1], [(0, 1, 1, 1, 5, 5, 0)]],
            [[A1], [(1, 1, 0, 1, 5, 5, 0)]], [[A1], [(0, 3, 0, 2, 5, 10, 0)]], [[A1], [(0, 2, 0, 3, 5, 10, 0)]],
        ):
            with self.subTest(rows=rows):
                self.assertIsNone(in_one(rows))

    def test_twenty_rows(self):
        deeds = [(at % 12, at // 12 + 1, at % 6, at // 6 + 1, 1, at // 12 + 1, at // 7) for at in range(20)]
        self.assertIsNone(judge(deeds))
        self.assertEqual(in_one([[deed] for deed in deeds]), list(enumerate(deeds)))
        self.assertTrue(is_first(in_one([[deed] for deed in reversed(deeds)]), [[deed] for deed in reversed(deeds)]))


class AllRows(unittest.TestCase):
    """Small rows, held against all rows that can be put together."""

    def drawn_rows(self, chance):
        deeds = drawn_deeds(chance, chance.randint(0, 7), (0, 11, 4), (0, 5, 2))
        if deeds and chance.random() < 0.3:
            deeds = spoilt_deeds(chance, deeds)
        rows = dealt(chance, deeds, chance.randint(1, 4))
        place = chance.randrange(len(rows))
        if len(rows[place]) > 1 and chance.random() < 0.2:
            chance.shuffle(rows[place])
        return rows

    def test_drawn_rows(self):
        none = several = waits = 0
        for seed in range(600):
            rows = self.drawn_rows(random.Random(seed))
            first, many = first_of_all(rows)
            with self.subTest(seed=seed):
                self.assertEqual(in_one(rows), first)
            none += first is None
            several += many > 1
            waits += first is not None and [place for place, deed in first] != sorted(place for place, deed in first)
        # So that all that can come about did.
        self.assertGreater(none, 50)
        self.assertGreater(several, 50)
        self.assertGreater(waits, 50)


class ManyDeeds(unittest.TestCase):
    def check_first(self, rows):
        row = in_one(rows)
        self.assertIsNotNone(row)
        self.assertTrue(is_first(row, rows))
        self.assertIsNone(judge([deed for place, deed in row]))

    def test_rows_of_worlds(self):
        for seed in range(30):
            with self.subTest(seed=seed):
                rows = rows_of(drawn_world(seed, random.Random(seed).choice((40, 101))))
                self.check_first(rows)

    def test_dealt_rows(self):
        for seed in range(20):
            chance = random.Random(seed)
            with self.subTest(seed=seed):
                self.check_first(dealt(chance, long_deeds(chance), chance.choice((1, 2, 6, 20))))

    def test_rows_of_worlds_that_were_spoilt(self):
        for seed in range(30):
            chance = random.Random(seed)
            rows = rows_of(drawn_world(seed, 100))
            place = chance.choice([place for place, deeds in enumerate(rows) if deeds])
            at = chance.randrange(len(rows[place]))
            with self.subTest(seed=seed, place=place, at=at):
                for deeds in (rows[place][:at] + rows[place][at + 1:], [*rows[place], rows[place][at]]):
                    self.check_spoilt([*rows[:place], deeds, *rows[place + 1:]])
                deeds = list(rows[place])
                deeds[at] = spoilt_part(chance, deeds[at])
                self.check_spoilt([*rows[:place], deeds, *rows[place + 1:]])

    def check_spoilt(self, rows):
        row = in_one(rows)
        if row is not None:
            self.assertTrue(is_first(row, rows))
            return
        # None is let: a part is told twice or left out, a worth is wrong, or deeds wait for each other.
        self.assertFalse(self.could_be(rows))

    def could_be(self, rows):
        """Whether some row is let: one in which each deed comes behind all that it must wait for."""
        left = [list(deeds) for deeds in rows]
        taken = []
        while any(left):
            behind = [deed for deeds in left for deed in deeds]
            free = [deeds for deeds in left if deeds and not must_wait(deeds[0], behind)]
            if not free:
                return False
            # The last house, so that nothing but being let is the same as in in_one.
            taken.append(free[-1].pop(0))
        return own_judge(taken) is None

    def test_none_is_let(self):
        """The last deed can't be, so all that lies ahead may be tried in vain."""
        for seed in range(10):
            chance = random.Random(seed)
            deeds = long_deeds(chance)
            slot, count, asker, number, more, worth, make = deeds[-1]
            for last in (
                (slot, count + 1, asker, number, more, worth, make), (slot, count, asker, number + 1, more, worth, make),
                (slot, count, asker, number, more, worth + 1, make), deeds[0],
            ):
                with self.subTest(seed=seed, last=last):
                    self.assertIsNone(in_one(dealt(chance, [*deeds[:-1], last], 20)))

    def test_two_that_wait_for_each_other(self):
        """Behind 97 deeds that can be in any order, but for each asker's."""
        rows = [[] for place in range(18)]
        for at in range(97):
            rows[at % 6].append((at % 6, at // 6 + 1, at % 6, at // 6 + 1, 0, 0, 0))
        first, second = (10, 1, 0, 18, 0, 0, 0), (10, 2, 0, 19, 0, 0, 0)
        other_first, other_second = (11, 1, 1, 17, 0, 0, 0), (11, 2, 1, 18, 0, 0, 0)
        self.assertIsNone(in_one([*rows, [second, other_first], [other_second, first]]))
        self.check_first([*rows, [other_first, second], [first, other_second]])


class HandedIn(unittest.TestCase):
    def test_the_rows_stay_and_may_be_changed(self):
        for rows in ([], [[A2], [B1, A1]], [[A2]], rows_of(drawn_world(1, 60))):
            kept = copy.deepcopy(rows)
            told = in_one(rows)
            self.assertEqual(rows, kept)
            again = copy.deepcopy(told)
            for deeds in rows:
                deeds.clear()
            rows.clear()
            self.assertEqual(told, again)
            self.assertEqual(in_one(kept), again)

    def test_what_was_told_may_be_changed(self):
        rows = [[A2], [B1, A1]]
        in_one(rows).clear()
        in_one([]).append(None)
        self.assertEqual(in_one(rows), [(1, B1), (1, A1), (0, A2)])
        self.assertEqual(in_one([]), [])


if __name__ == "__main__":
    unittest.main()
