"""Points 1, 3, 4 and 5: the board."""

import copy
import random
import unittest

from drainhouse.board import Board
from drainhouse.errors import BadHouse, DrainError, Known, LastHouse, NoHouse, TooMany
from drainhouse.letters import edition_letter, has_letter
from drainhouse.shares import shared

# The largest number that may be handed in: twenty figures.
FAR = 10 ** 20 - 1
BAD_HOUSES = (-1, 20, FAR, -FAR, True, False)


def tell(board, house, number):
    """Let the board hear that a house has the edition of this number."""
    kind, name, what = has_letter(house, number)
    assert (kind, name) == ("board", 0)
    board.hear(what)


def tell_all(board):
    """Let all houses that are written to tell that they have the edition."""
    number = board.edition()[0]
    for kind, house, what in board.letters():
        assert kind == "house"
        tell(board, house, number)


def settle(board):
    """Settle edition by edition till nothing waits; tells all editions that were to be seen."""
    seen = [board.edition()]
    while not board.settled():
        tell_all(board)
        if board.edition() != seen[-1]:
            seen.append(board.edition())
    return seen


def settled_board(*houses):
    """A board with these houses, all settled."""
    board = Board(houses[0])
    for house in houses[1:]:
        board.come(house)
    settle(board)
    return board


def view(board):
    """All that the board tells."""
    return copy.deepcopy((board.edition(), board.houses(), board.settled(), board.waiting(), board.letters()))


def written_to(board):
    """The houses that the board writes to."""
    return [house for kind, house, what in board.letters()]


class FirstEdition(unittest.TestCase):
    def test_all_slots_are_the_first_house_s(self):
        for first in (0, 1, 18, 19):
            board = Board(first)
            self.assertEqual(board.edition(), (1, 0, (first,) * 12))
            self.assertEqual(board.houses(), [first])
            self.assertEqual(board.waiting(), 0)
            self.assertIs(board.settled(), False)

    def test_it_is_settled_by_its_house(self):
        board = Board(19)
        tell(board, 0, 1)
        self.assertIs(board.settled(), False)
        tell(board, 19, 1)
        self.assertIs(board.settled(), True)
        self.assertEqual(board.edition(), (1, 0, (19,) * 12))
        self.assertEqual(board.letters(), [])

    def test_no_house(self):
        for first in BAD_HOUSES:
            with self.subTest(first=first), self.assertRaises(BadHouse):
                Board(first)

    def test_changes_wait_till_it_is_settled(self):
        board = Board(4)
        board.come(2)
        self.assertEqual((board.edition()[0], board.houses(), board.waiting()), (1, [4], 1))
        tell(board, 4, 1)
        self.assertEqual(board.edition(), (2, 0, (2,) * 6 + (4,) * 6))
        self.assertEqual((board.houses(), board.waiting(), board.settled()), ([2, 4], 0, False))


class Editions(unittest.TestCase):
    def test_a_change_begins_at_once_if_all_is_settled(self):
        board = settled_board(3)
        board.come(19)
        self.assertEqual(board.edition(), (2, 0, (3,) * 6 + (19,) * 6))
        self.assertEqual((board.houses(), board.waiting()), ([3, 19], 0))
        self.assertIs(board.settled(), False)

    def test_come_shares_with_the_house(self):
        board = settled_board(5)
        owners = board.edition()[2]
        here = [5]
        for number, house in enumerate((0, 19, 7, 6, 1), 2):
            board.come(house)
            here = sorted([*here, house])
            owners = shared(owners, here)
            self.assertEqual(board.edition(), (number, 0, owners))
            self.assertEqual(board.houses(), here)
            settle(board)

    def test_farewell_shares_without_the_house(self):
        board = settled_board(0, 1, 2, 3, 4, 19)
        owners = board.edition()[2]
        here = [0, 1, 2, 3, 4, 19]
        for number, house in enumerate((0, 19, 2, 4, 1), 7):
            board.farewell(house)
            here.remove(house)
            owners = shared(owners, here)
            self.assertEqual(board.edition(), (number, 0, owners))
            self.assertEqual(board.houses(), here)
            settle(board)
        self.assertEqual(board.edition()[2], (3,) * 12)

    def test_by_hand(self):
        board = settled_board(0, 1)
        self.assertEqual(board.edition(), (2, 0, (0,) * 6 + (1,) * 6))
        board.come(2)
        self.assertEqual(board.edition(), (3, 0, (0, 0, 0, 0, 2, 2, 1, 1, 1, 1, 2, 2)))
        settle(board)
        board.farewell(0)
        self.assertEqual(board.edition(), (4, 0, (1, 1, 2, 2, 2, 2, 1, 1, 1, 1, 2, 2)))

    def test_a_turn_takes_two_editions(self):
        board = settled_board(3, 8)
        owners = board.edition()[2]
        board.turn()
        self.assertEqual(board.edition(), (3, None, owners))
        self.assertEqual((board.houses(), board.waiting(), board.settled()), ([3, 8], 1, False))
        tell(board, 8, 3)
        self.assertEqual((board.edition(), board.waiting()), ((3, None, owners), 1))
        tell(board, 3, 3)
        self.assertEqual(board.edition(), (4, 1, owners))
        self.assertEqual((board.houses(), board.waiting(), board.settled()), ([3, 8], 0, False))
        tell_all(board)
        self.assertIs(board.settled(), True)
        self.assertEqual(board.edition(), (4, 1, owners))

    def test_turns_one_behind_the_other(self):
        board = settled_board(3)
        board.turn()
        board.turn()
        self.assertEqual(board.waiting(), 2)
        makes = [make for number, make, owners in settle(board)]
        self.assertEqual(makes, [None, 1, None, 2])

    def test_the_make_stays_by_come_and_farewell(self):
        board = settled_board(3)
        board.turn()
        board.come(1)
        board.farewell(3)
        board.turn()
        editions = settle(board)
        self.assertEqual([make for number, make, owners in editions], [None, 1, 1, 1, None, 2])
        self.assertEqual([number for number, make, owners in editions], [2, 3, 4, 5, 6, 7])
        self.assertEqual([owners[0] for number, make, owners in editions], [3, 3, 1, 1, 1, 1])

    def test_changes_told_while_others_wait(self):
        board = Board(2)
        board.come(9)
        board.turn()
        self.assertEqual(board.waiting(), 2)
        tell_all(board)
        self.assertEqual((board.edition()[:2], board.waiting()), ((2, 0), 1))
        board.farewell(2)
        board.come(0)
        self.assertEqual((board.edition()[:2], board.waiting(), board.houses()), ((2, 0), 3, [2, 9]))
        expected = [((3, None), 3, [2, 9]), ((4, 1), 2, [2, 9]), ((5, 1), 1, [9]), ((6, 1), 0, [0, 9])]
        for head, waits, here in expected:
            tell_all(board)
            self.assertEqual((board.edition()[:2], board.waiting(), board.houses()), (head, waits, here))
            self.assertIs(board.settled(), False)
        tell_all(board)
        self.assertEqual((board.edition()[0], board.settled(), board.waiting()), (6, True, 0))


class Settled(unittest.TestCase):
    def test_a_house_that_comes_is_asked_too(self):
        board = settled_board(1)
        board.come(6)
        tell(board, 1, 2)
        self.assertIs(board.settled(), False)
        tell(board, 6, 2)
        self.assertIs(board.settled(), True)

    def test_a_house_that_says_farewell_is_asked_too(self):
        board = settled_board(1, 6)
        board.farewell(1)
        tell(board, 6, 3)
        self.assertIs(board.settled(), False)
        tell(board, 1, 3)
        self.assertIs(board.settled(), True)

    def test_a_house_that_is_gone_is_asked_no_more(self):
        board = settled_board(1, 6)
        board.farewell(1)
        settle(board)
        board.turn()
        tell(board, 6, 4)
        self.assertEqual(board.edition()[:2], (5, 1))
        tell(board, 6, 5)
        self.assertIs(board.settled(), True)

    def test_a_house_that_waits_is_not_asked_yet(self):
        board = settled_board(1)
        board.turn()
        board.come(6)
        tell(board, 6, 2)
        self.assertEqual(board.edition()[0], 2)
        tell(board, 1, 2)
        self.assertEqual(board.edition()[0], 3)

    def test_a_change_behind_a_settled_edition_settles_no_more(self):
        board = settled_board(1)
        self.assertIs(board.settled(), True)
        board.turn()
        self.assertIs(board.settled(), False)


class Refusals(unittest.TestCase):
    def check_refused(self, board, refusal, change, *handed):
        ahead = view(board)
        with self.assertRaises(DrainError) as caught:
            change(*handed)
        self.assertIs(caught.exception.__class__, refusal)
        self.assertEqual(view(board), ahead)

    def test_no_house(self):
        for board in (Board(0), settled_board(0), settled_board(0, 1, 2, 3, 4, 5)):
            for house in BAD_HOUSES:
                self.check_refused(board, BadHouse, board.come, house)
                self.check_refused(board, BadHouse, board.farewell, house)

    def test_come_of_a_house_that_was_told_ahead(self):
        board = Board(0)
        self.check_refused(board, Known, board.come, 0)
        board.come(1)
        self.check_refused(board, Known, board.come, 1)
        settle(board)
        self.check_refused(board, Known, board.come, 1)
        board.farewell(0)
        self.check_refused(board, Known, board.come, 0)
        settle(board)
        self.check_refused(board, Known, board.come, 0)

    def test_come_of_a_seventh(self):
        board = settled_board(0)
        for house in (19, 1, 2, 3, 4):
            board.come(house)
        self.check_refused(board, TooMany, board.come, 5)
        settle(board)
        self.check_refused(board, TooMany, board.come, 5)
        self.check_refused(board, Known, board.come, 4)
        board.farewell(19)
        self.check_refused(board, Known, board.come, 19)
        board.come(5)
        self.check_refused(board, TooMany, board.come, 6)

    def test_a_house_that_was_refused_is_not_known(self):
        board = settled_board(0, 1, 2, 3, 4, 5)
        self.check_refused(board, TooMany, board.come, 6)
        self.check_refused(board, TooMany, board.come, 6)
        self.check_refused(board, NoHouse, board.farewell, 6)
        board.farewell(5)
        board.come(6)
        settle(board)
        self.assertEqual(board.houses(), [0, 1, 2, 3, 4, 6])

    def test_farewell_of_no_house(self):
        board = settled_board(0, 1)
        self.check_refused(board, NoHouse, board.farewell, 2)
        board.farewell(0)
        self.check_refused(board, NoHouse, board.farewell, 0)
        settle(board)
        self.check_refused(board, NoHouse, board.farewell, 0)

    def test_farewell_of_the_last_house(self):
        board = settled_board(0)
        self.check_refused(board, NoHouse, board.farewell, 1)
        self.check_refused(board, LastHouse, board.farewell, 0)
        board.come(1)
        board.farewell(0)
        self.check_refused(board, LastHouse, board.farewell, 1)
        self.check_refused(board, NoHouse, board.farewell, 0)
        settle(board)
        self.check_refused(board, LastHouse, board.farewell, 1)

    def test_they_look_behind_all_changes(self):
        board = Board(0)
        board.come(1)
        board.farewell(0)
        board.come(2)
        board.farewell(1)
        self.assertEqual((board.houses(), board.waiting()), ([0], 4))
        self.check_refused(board, NoHouse, board.farewell, 0)
        self.check_refused(board, NoHouse, board.farewell, 1)
        self.check_refused(board, LastHouse, board.farewell, 2)
        self.check_refused(board, Known, board.come, 1)
        self.assertEqual([edition[2][0] for edition in settle(board)], [0, 0, 1, 1, 2])
        self.assertEqual(board.houses(), [2])


class Letters(unittest.TestCase):
    def test_the_edition_is_told_till_a_house_has_it(self):
        board = settled_board(3, 8)
        board.come(0)
        edition = board.edition()
        self.assertEqual(board.letters(), [edition_letter(house, edition) for house in (0, 3, 8)])
        tell(board, 3, 3)
        self.assertEqual(written_to(board), [0, 8])
        tell(board, 8, 3)
        tell(board, 0, 3)
        self.assertEqual(board.letters(), [])

    def test_a_house_that_says_farewell_is_told(self):
        board = settled_board(3, 8)
        board.farewell(8)
        self.assertEqual(written_to(board), [3, 8])

    def test_never(self):
        board = Board(3)
        board.come(8)
        ahead = view(board)
        for again in range(50):
            self.assertEqual(view(board), ahead)

    def test_heard_twice(self):
        board = settled_board(3, 8)
        board.turn()
        tell(board, 3, 3)
        ahead = view(board)
        tell(board, 3, 3)
        self.assertEqual(view(board), ahead)
        tell(board, 8, 3)
        ahead = view(board)
        tell(board, 8, 3)
        tell(board, 3, 3)
        self.assertEqual(view(board), ahead)
        settle(board)
        ahead = view(board)
        for house in (3, 8):
            tell(board, house, 4)
        self.assertEqual(view(board), ahead)

    def test_heard_late(self):
        board = settled_board(3, 8)
        board.turn()
        board.turn()
        for number in (3, 4, 5, 6):
            ahead = view(board)
            for elder in range(1, number):
                for house in (3, 8):
                    tell(board, house, elder)
            self.assertEqual(view(board), ahead)
            tell_all(board)
        self.assertIs(board.settled(), True)

    def test_heard_in_any_order(self):
        for seed in range(30):
            chance = random.Random(seed)
            board = settled_board(0, 1, 2, 3)
            board.come(19)
            asked = [0, 1, 2, 3, 19]
            chance.shuffle(asked)
            for house in asked:
                self.assertIs(board.settled(), False)
                tell(board, house, 5)
            self.assertIs(board.settled(), True)

    def test_a_house_that_is_not_asked_settles_nothing(self):
        board = settled_board(3, 8)
        board.turn()
        ahead = view(board)
        tell(board, 5, 3)
        self.assertEqual(view(board), ahead)


class NothingIsShared(unittest.TestCase):
    def test_lists_that_were_told_may_be_changed(self):
        board = settled_board(3, 8)
        board.come(5)
        board.turn()
        ahead = view(board)
        for told in (board.houses(), board.letters()):
            told.append(told.pop(0))
            told.append(19)
            self.assertEqual(view(board), ahead)
            told.clear()
            self.assertEqual(view(board), ahead)
        self.assertEqual([edition[0] for edition in settle(board)], [3, 4, 5])

    def test_houses_told_ahead_of_a_change_stay_as_they_were_told(self):
        board = settled_board(3)
        houses, letters, edition = board.houses(), board.letters(), board.edition()
        board.come(5)
        self.assertEqual((houses, letters, edition), ([3], [], (1, 0, (3,) * 12)))

    def test_boards_know_nothing_of_each_other(self):
        one, other = Board(3), Board(3)
        one.come(5)
        settle(one)
        self.assertEqual(view(other), view(Board(3)))


class Wild(unittest.TestCase):
    """Many changes, told at any time, and letters heard late, twice, in any order and never."""

    def play(self, chance):
        first = chance.choice((0, 19, chance.randrange(20)))
        board = Board(first)
        here, known, make, owners = [first], [first], 0, (first,) * 12
        expected, seen, road = [board.edition()], [board.edition()], []
        for step in range(150):
            doing = chance.randrange(10)
            house = chance.randrange(20)
            if doing == 0:
                if house in known or len(here) == 6:
                    self.assertRaises(Known if house in known else TooMany, board.come, house)
                    continue
                board.come(house)
                known.append(house)
                here = sorted([*here, house])
            elif doing == 1:
                if house not in here or len(here) == 1:
                    self.assertRaises(LastHouse if house in here else NoHouse, board.farewell, house)
                    continue
                board.farewell(house)
                here.remove(house)
            elif doing == 2:
                board.turn()
                expected.append((len(expected) + 1, None, owners))
                make += 1
            else:
                self.hear_some(board, chance, road)
            if doing < 3:
                owners = shared(owners, here)
                expected.append((len(expected) + 1, make, owners))
            if board.edition() != seen[-1]:
                seen.append(board.edition())
            not_begun = expected[board.edition()[0]:]
            self.assertEqual(board.waiting(), len([edition for edition in not_begun if edition[1] is not None]))
        seen += settle(board)[1:]
        self.assertEqual(seen, expected)
        self.assertEqual((board.waiting(), board.settled(), board.houses()), (0, True, here))

    def hear_some(self, board, chance, road):
        """Houses tell that they have the edition; of what lies on the road one is heard, or heard again, or lost."""
        number = board.edition()[0]
        road.extend((house, number) for house in written_to(board))
        if road:
            place = chance.randrange(len(road))
            if chance.randrange(4):
                tell(board, *road[place])
            if chance.randrange(4):
                road.pop(place)

    def test_games(self):
        for seed in range(60):
            with self.subTest(seed=seed):
                self.play(random.Random(seed))


if __name__ == "__main__":
    unittest.main()
