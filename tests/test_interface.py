"""The interface: names, arguments, and where they are defined."""

import inspect
import unittest

from drainhouse import board, errors, shares


class Interface(unittest.TestCase):
    METHODS = {
        "__init__": ["self", "first"], "come": ["self", "house"], "farewell": ["self", "house"], "turn": ["self"],
        "hear": ["self", "what"], "edition": ["self"], "houses": ["self"], "letters": ["self"],
        "settled": ["self"], "waiting": ["self"],
    }

    def test_shared(self):
        self.assertEqual(list(inspect.signature(shares.shared).parameters), ["owners", "houses"])
        self.assertEqual(shares.shared.__module__, "drainhouse.shares")

    def test_board(self):
        self.assertEqual(board.Board.__module__, "drainhouse.board")
        for name, handed in self.METHODS.items():
            with self.subTest(name):
                self.assertEqual(list(inspect.signature(vars(board.Board)[name]).parameters), handed)

    def test_kinds_of_values(self):
        made = board.Board(first=3)
        for nothing in (made.come(house=5), made.farewell(house=3), made.turn()):
            self.assertIsNone(nothing)
        self.assertIsNone(made.hear(what=("has", 3, 1)))
        self.assertIs(made.edition().__class__, tuple)
        self.assertIs(made.edition()[2].__class__, tuple)
        self.assertIs(made.houses().__class__, list)
        self.assertIs(made.letters().__class__, list)
        self.assertIs(made.settled().__class__, bool)
        self.assertIs(made.waiting().__class__, int)
        self.assertIs(shares.shared(owners=(3,) * 12, houses=[3]).__class__, tuple)

    def test_a_letter_is_kind_name_and_what(self):
        for kind, name, what in board.Board(3).letters():
            self.assertEqual((kind, name), ("house", 3))

    def test_refusals_are_caught_as_any_refusal(self):
        with self.assertRaises(errors.DrainError):
            board.Board(20)
        with self.assertRaises(ValueError):
            shares.shared((), [])


if __name__ == "__main__":
    unittest.main()
