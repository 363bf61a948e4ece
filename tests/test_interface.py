"""The interface: names, arguments, kinds of values, and where they are defined."""

import inspect
import unittest

from drainhouse import asker, board, errors, house, judge, merge, notes, shares, steps, world

FUNCTIONS = (
    (shares, "shared", ["owners", "houses"]),
    (judge, "judge", ["deeds"]),
    (merge, "in_one", ["rows"]),
    (notes, "written", ["edition"]),
    (notes, "read", ["text"]),
    (steps, "written_steps", ["steps"]),
    (steps, "read_steps", ["text"]),
    (steps, "played", ["first", "steps"]),
)
CLASSES = (
    (board, "Board", {
        "__init__": ["self", "first"], "come": ["self", "house"], "farewell": ["self", "house"], "turn": ["self"],
        "hear": ["self", "what"], "edition": ["self"], "houses": ["self"], "letters": ["self"],
        "settled": ["self"], "waiting": ["self"],
    }),
    (house, "House", {
        "__init__": ["self", "name"], "hear": ["self", "what"], "letters": ["self"], "serves": ["self"],
        "slots": ["self"], "deeds": ["self"], "edition": ["self"], "is_gone": ["self"],
    }),
    (asker, "Asker", {
        "__init__": ["self", "name", "edition"], "ask": ["self", "slot", "more"], "book": ["self"],
        "hear": ["self", "what"], "letters": ["self"], "is_busy": ["self"], "answer": ["self"],
    }),
    (world, "World", {
        "__init__": ["self", "first"], "come": ["self", "house"], "farewell": ["self", "house"], "turn": ["self"],
        "carry": ["self", "place"], "twice": ["self", "place"], "lose": ["self", "place"],
        "ask": ["self", "asker", "slot", "more"], "send": ["self"], "settle": ["self", "most"], "deeds": ["self"],
        "answered": ["self"], "serving": ["self"], "gone": ["self"], "worths": ["self"], "edition": ["self"],
        "is_still": ["self"],
    }),
)


class Interface(unittest.TestCase):
    def check_kinds(self, kind, *told):
        for value in told:
            self.assertIs(value.__class__, kind)

    def test_functions(self):
        for module, name, handed in FUNCTIONS:
            with self.subTest(name):
                function = getattr(module, name)
                self.assertEqual(list(inspect.signature(function).parameters), handed)
                self.assertEqual(function.__module__, module.__name__)

    def test_kinds_of_functions(self):
        edition = (1, None, (3,) * 12)
        self.check_kinds(tuple, shares.shared(owners=(3,) * 12, houses=[3]))
        self.check_kinds(str, notes.written(edition=edition), steps.written_steps(steps=[("turn",)]))
        told = notes.read(text=notes.written(edition))
        self.check_kinds(tuple, told, told[2])
        self.check_kinds(int, told[0], *told[2])
        told = steps.read_steps(text="carry 1")
        self.check_kinds(list, told)
        self.check_kinds(tuple, told[0])
        self.check_kinds(int, told[0][1])

    def test_kinds_of_what_deeds_are_told(self):
        deed = (0, 1, 0, 1, 5, 5, 0)
        self.assertIsNone(judge.judge(deeds=[deed]))
        self.check_kinds(int, judge.judge([deed, deed]))
        self.assertIsNone(merge.in_one(rows=[[deed, deed]]))
        told = merge.in_one([[], [deed]])
        self.check_kinds(list, told)
        self.check_kinds(tuple, told[0], told[0][1])
        self.check_kinds(int, told[0][0])

    def test_kinds_of_played(self):
        told = steps.played(first=3, steps=[("turn",), ("send",)])
        self.check_kinds(tuple, told)
        self.check_kinds(list, told[0])
        self.check_kinds(int, told[0][1])
        self.check_kinds(world.World, told[1])
        self.assertIsNone(told[0][0])

    def test_classes(self):
        for module, name, methods in CLASSES:
            made = getattr(module, name)
            self.assertEqual(made.__module__, module.__name__)
            for method, handed in methods.items():
                with self.subTest(f"{name}.{method}"):
                    self.assertEqual(list(inspect.signature(vars(made)[method]).parameters), handed)

    def test_kinds_of_a_board(self):
        made = board.Board(first=3)
        for nothing in (made.come(house=5), made.farewell(house=3), made.turn()):
            self.assertIsNone(nothing)
        self.assertIsNone(made.hear(what=("has", 3, 1)))
        self.check_kinds(tuple, made.edition(), made.edition()[2])
        self.check_kinds(list, made.houses(), made.letters())
        self.check_kinds(bool, made.settled())
        self.check_kinds(int, made.waiting())

    def test_kinds_of_a_house(self):
        made = house.House(name=3)
        told = board.Board(3).letters()
        self.assertIsNone(made.hear(what=told[0][2]))
        self.check_kinds(list, made.letters(), made.serves(), made.slots(), made.deeds())
        self.check_kinds(tuple, made.slots()[0])
        self.check_kinds(int, made.edition())
        self.check_kinds(bool, made.is_gone())

    def test_kinds_of_an_asker(self):
        server = house.House(3)
        server.hear(board.Board(3).letters()[0][2])
        made = asker.Asker(name=0, edition=(1, 0, (3,) * 12))
        self.assertIsNone(made.answer())
        self.check_kinds(int, made.ask(slot=11, more=99), made.book())
        self.check_kinds(list, made.letters())
        self.check_kinds(bool, made.is_busy())
        server.hear(made.letters()[0][2])
        self.check_kinds(tuple, server.deeds()[0])
        told = [what for kind, name, what in server.letters() if kind == "asker"]
        self.assertIsNone(made.hear(what=told[0]))
        self.check_kinds(tuple, made.answer())

    def test_kinds_of_a_world(self):
        made = world.World(first=3)
        for nothing in (made.come(house=5), made.farewell(house=3), made.turn()):
            self.assertIsNone(nothing)
        self.check_kinds(int, made.ask(asker=5, slot=0, more=-99), made.send())
        for nothing in (made.twice(place=0), made.carry(place=0), made.lose(place=0)):
            self.assertIsNone(nothing)
        self.check_kinds(int, made.settle(most=99))
        self.check_kinds(list, made.deeds(), made.answered(), made.serving(), made.gone(), made.worths())
        rows = (made.deeds()[0], made.deeds()[0][1], made.answered()[0], made.answered()[0][1], made.serving()[0])
        self.check_kinds(tuple, made.edition(), made.worths()[0], *rows)
        self.check_kinds(list, made.serving()[0][1])
        self.check_kinds(bool, made.is_still())

    def test_a_letter_is_kind_name_and_what(self):
        for kind, name, what in board.Board(3).letters():
            self.assertEqual((kind, name), ("house", 3))

    def test_refusals_are_caught_as_any_refusal(self):
        for refused in (board.Board, house.House, world.World):
            with self.assertRaises(errors.DrainError):
                refused(20)
        with self.assertRaises(ValueError):
            shares.shared((), [])
        with self.assertRaises(errors.DrainError):
            asker.Asker(6, ())
        for refused, handed in ((notes.read, ""), (notes.written, ()), (steps.read_steps, "x")):
            with self.assertRaises(errors.DrainError):
                refused(handed)


if __name__ == "__main__":
    unittest.main()
