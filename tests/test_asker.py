"""Points 1, 5 and 9: askers."""

import copy
import unittest

from drainhouse.asker import Asker
from drainhouse.errors import BadAsk, BadAsker, BadEdition, Busy, DrainError
from tests.village import (
    BAD_ASKERS, BAD_MORES, BAD_SLOTS, FAR, Village, asker_view, of_kind, settled_village,
)

OWNERS = (0, 1, 2, 3, 4, 5, 6, 7, 8, 9, 18, 19)


def sent_to(asker):
    """The houses that the asker writes to."""
    for kind, name, what in asker.letters():
        assert kind == "house"
    return [name for kind, name, what in asker.letters()]


class NewAsker(unittest.TestCase):
    BAD_EDITIONS = (
        (), (1,), (1, 0), (1, 0, OWNERS, 0), (0, 0, OWNERS), (-1, 0, OWNERS), (10 ** 6 + 1, 0, OWNERS),
        (FAR, 0, OWNERS), (-FAR, 0, OWNERS), (None, 0, OWNERS), (1, -1, OWNERS), (1, 10 ** 6 + 1, OWNERS),
        (1, FAR, OWNERS), (1, -FAR, OWNERS), (1, 0, None), (1, 0, 3), (1, 0, ()), (1, 0, OWNERS[1:]),
        (1, 0, OWNERS + (0,)), (1, 0, (20,) + OWNERS[1:]), (1, 0, OWNERS[1:] + (-1,)), (1, 0, (None,) + OWNERS[1:]),
        (1, 0, (FAR,) + OWNERS[1:]), (1, 0, ((),) + OWNERS[1:]), ((1,), 0, OWNERS), (1, (0,), OWNERS), OWNERS,
        (OWNERS, 0, 1), (None, None, None), ((), (), ()), (True, 0, OWNERS), (1, False, OWNERS),
        (1, 0, (True,) + OWNERS[1:]),
    )

    def test_nothing_is_under_way(self):
        for name in (0, 1, 4, 5):
            asker = Asker(name, (1, 0, OWNERS))
            self.assertEqual(asker_view(asker), (False, None, 1))
            self.assertEqual(asker.letters(), [])

    def test_its_book_may_be_any_edition(self):
        for edition in (
            (1, 0, (0,) * 12), (10 ** 6, 10 ** 6, (19,) * 12), (7, None, OWNERS), (1, None, OWNERS), (2, 5, OWNERS),
        ):
            self.assertEqual(asker_view(Asker(3, edition)), (False, None, edition[0]))

    def test_no_asker(self):
        for name in BAD_ASKERS:
            with self.subTest(name=name), self.assertRaises(BadAsker):
                Asker(name, (1, 0, OWNERS))

    def test_no_edition(self):
        for edition in self.BAD_EDITIONS:
            with self.subTest(edition=edition), self.assertRaises(BadEdition):
                Asker(0, edition)

    def test_what_is_handed_in_first_is_refused(self):
        for name in BAD_ASKERS:
            for edition in self.BAD_EDITIONS:
                with self.assertRaises(BadAsker):
                    Asker(name, edition)


class Asking(unittest.TestCase):
    def setUp(self):
        self.village = settled_village(3)
        self.asker = self.village.asker(0)

    def check_refused(self, refusal, slot, more):
        ahead = copy.deepcopy((asker_view(self.asker), self.asker.letters()))
        with self.assertRaises(DrainError) as caught:
            self.asker.ask(slot, more)
        self.assertIs(caught.exception.__class__, refusal)
        self.assertEqual((asker_view(self.asker), self.asker.letters()), ahead)

    def test_its_numbers(self):
        for number, (slot, more) in enumerate(((0, -99), (11, 99), (5, 0), (5, 0), (0, 1)), 1):
            self.assertEqual(self.asker.ask(slot, more), number)
            self.assertTrue(self.asker.is_busy())
            self.village.settle()
            self.assertFalse(self.asker.is_busy())
            self.assertEqual(self.asker.answer()[0], number)

    def test_numbers_of_askers_are_their_own(self):
        other = self.village.asker(5)
        self.village.done(0, 1, 1)
        self.assertEqual(other.ask(1, 1), 1)
        self.assertEqual(self.asker.ask(1, 1), 2)

    def test_bad_asks(self):
        for slot in BAD_SLOTS:
            self.check_refused(BadAsk, slot, 0)
        for more in BAD_MORES:
            self.check_refused(BadAsk, 0, more)
        self.check_refused(BadAsk, 12, 100)
        self.assertEqual(self.asker.ask(0, 0), 1)

    def test_busy(self):
        self.asker.ask(0, 5)
        self.check_refused(Busy, 0, 5)
        self.check_refused(Busy, 11, -99)
        for slot in BAD_SLOTS:
            self.check_refused(BadAsk, slot, 0)
        for more in BAD_MORES:
            self.check_refused(BadAsk, 0, more)
        self.village.settle()
        self.assertEqual(self.asker.answer(), (1, 5, 1, 0))
        self.assertEqual(self.asker.ask(0, 5), 2)

    def test_it_is_sent_to_whom_the_book_names(self):
        for slot, owner in enumerate(OWNERS):
            asker = Asker(2, (4, None, OWNERS))
            asker.ask(slot, 7)
            self.assertEqual(sent_to(asker), [owner])

    def test_it_is_sent_till_it_is_answered(self):
        self.asker.ask(4, 7)
        letters = self.asker.letters()
        for again in range(5):
            self.assertEqual(self.asker.letters(), letters)
            self.village.hear_all(letters)
        self.village.hear_all(self.village.houses[3].letters())
        self.assertEqual(asker_view(self.asker), (False, (1, 7, 1, 0), 1))
        self.assertEqual(self.asker.letters(), [])

    def test_the_last_answer_stays_while_the_next_is_under_way(self):
        answer = self.village.done(0, 4, 7)
        self.asker.ask(5, 1)
        self.assertEqual(asker_view(self.asker), (True, answer, 1))

    def test_lists_that_were_told_may_be_changed(self):
        self.asker.ask(4, 7)
        told = self.asker.letters()
        kept = copy.deepcopy(told)
        told.append(told[0])
        self.assertEqual(self.asker.letters(), kept)
        told.clear()
        self.assertEqual(self.asker.letters(), kept)


class Answers(unittest.TestCase):
    def test_an_answer_to_an_elder_ask_means_nothing(self):
        village = settled_village(3)
        asker = village.asker(0)
        seen = []
        for number in range(1, 5):
            asker.ask(number % 2, number)
            village.hear_all(seen)
            self.assertTrue(asker.is_busy())
            self.assertEqual(asker.letters()[0][:2], ("house", 3))
            village.hear_all(asker.letters())
            seen += of_kind(village.houses[3].letters(), "asker", 0)
            village.hear_all(seen)
            self.assertFalse(asker.is_busy())
            answer = asker.answer()
            self.assertEqual(answer[0], number)
            village.hear_all(seen[::-1])
            self.assertEqual(asker_view(asker), (False, answer, 1))

    def test_heard_twice(self):
        village = settled_village(3)
        asker = village.asker(0)
        asker.ask(2, -1)
        village.hear_all(asker.letters() * 2)
        village.hear_all(village.houses[3].letters() * 2)
        self.assertEqual(asker_view(asker), (False, (1, 999, 1, 0), 1))
        self.assertEqual(village.houses[3].deeds(), [(2, 1, 0, 1, -1, 999, 0)])


class Books(unittest.TestCase):
    """Slot 11 goes from 3 to 5, to 8, and back to 3."""

    def setUp(self):
        self.village = settled_village(3, 5, 8)
        self.village.farewell(5)
        self.village.settle()
        self.village.farewell(8)
        self.village.settle()
        self.assertEqual([self.village.editions[number][2][11] for number in range(1, 6)], [3, 5, 8, 8, 3])

    def told_book(self, house, number, slot=11):
        """A letter in which the house tells asker 1 of its edition, to whom the book of this number names it."""
        asker = self.village.asker(1, number)
        asker.ask(slot, 1)
        self.assertEqual(sent_to(asker), [house])
        self.village.hear_all(asker.letters())
        return of_kind(self.village.houses[house].letters(), "asker", 1)

    def test_a_later_one_is_taken(self):
        from_5 = self.told_book(5, 2)
        asker = self.village.asker(1)
        asker.ask(11, 1)
        self.assertEqual(sent_to(asker), [3])
        self.village.hear_all(from_5)
        self.assertEqual(asker_view(asker), (True, None, 4))
        self.assertEqual(sent_to(asker), [8])

    def test_an_elder_one_is_not(self):
        from_5 = self.told_book(5, 2)
        asker = self.village.asker(1, 5)
        asker.ask(11, 1)
        self.village.hear_all(from_5 * 2)
        self.assertEqual((asker.book(), sent_to(asker)), (5, [3]))

    def test_in_any_order(self):
        from_5, from_8 = self.told_book(5, 2), self.told_book(8, 3)
        for letters in (from_5 + from_8 + from_5, from_8 + from_5 + from_8):
            asker = self.village.asker(1)
            self.village.hear_all(letters)
            self.assertEqual(asker_view(asker), (False, None, 5))

    def test_also_while_nothing_is_under_way(self):
        letters = self.told_book(5, 2)
        asker = self.village.asker(1)
        self.village.hear_all(letters)
        self.assertEqual(asker_view(asker), (False, None, 4))
        asker.ask(11, 1)
        self.assertEqual(sent_to(asker), [8])

    def test_one_with_no_make_is_taken(self):
        village = settled_village(3)
        village.come(5)
        village.settle()
        village.turn()
        village.hear_all(of_kind(village.board.letters(), "house", 3))
        asker = village.asker(0)
        asker.ask(11, 1)
        village.hear_all(asker.letters())
        village.hear_all(of_kind(village.houses[3].letters(), "asker", 0))
        self.assertEqual((asker.book(), sent_to(asker)), (3, [5]))
        village.settle()
        self.assertEqual(asker_view(asker)[:2], (False, (1, 1, 1, 1)))

    def test_from_a_book_with_no_make(self):
        village = settled_village(3)
        village.turn()
        village.settle()
        village.come(5)
        village.settle()
        self.assertEqual(village.editions[2], (2, None, (3,) * 12))
        asker = village.asker(0, 2)
        self.assertEqual(village.done(0, 11, 1), (1, 1, 1, 1))
        self.assertEqual(asker.book(), 4)

    def test_each_old_book_leads_to_the_owner(self):
        for number in range(1, 6):
            asker = self.village.asker(number, number)
            asker.ask(11, number)
            self.village.settle()
            self.assertEqual(asker.answer(), (1, number * (number + 1) // 2, number, 0))
        self.assertEqual(len(self.village.houses[3].deeds()), 5)

    def test_askers_know_nothing_of_each_other(self):
        one, other = Asker(1, (1, 0, OWNERS)), Asker(1, (1, 0, OWNERS))
        one.ask(3, 3)
        self.assertEqual((asker_view(other), other.letters()), ((False, None, 1), []))

    def test_a_village_of_one(self):
        village = Village(19)
        village.asker(5).ask(11, 99)
        village.settle()
        self.assertEqual(asker_view(village.askers[5]), (False, (1, 99, 1, 0), 1))


if __name__ == "__main__":
    unittest.main()
