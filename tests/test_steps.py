"""Points 1 and 15: steps of a world, as texts and done."""

import copy
import random
import unittest

from drainhouse.errors import (
    BadAsk, BadAsker, BadCount, BadHouse, BadText, Busy, DrainError, Known, LastHouse, NoHouse, NoLetter, TooMany,
)
from drainhouse.steps import played, read_steps, written_steps
from drainhouse.world import World
from tests.drawn import done, drawn_step, spoilt_text
from tests.own_reader import own_read_steps
from tests.own_world import world_view
from tests.village import BAD_ASKERS, BAD_HOUSES, BAD_MORES, BAD_SLOTS

STEPS = [
    ("come", 8), ("farewell", 0), ("turn",), ("ask", 3, 11, -40), ("send",), ("carry", 0), ("twice", 10),
    ("lose", 9999999), ("settle", 99),
]
ROWS = (
    "come 8", "farewell 0", "turn", "ask 3 11 -40", "send", "carry 0", "twice 10", "lose 9999999", "settle 99",
)
WITH_ONE = ("come", "farewell", "carry", "twice", "lose", "settle")
ODD_NUMBERS = (
    "00", "01", "-01", "-00", "-0", "--1", "+1", "-", "12345678", "-12345678", "10000000", "1.5", "1-", "x", "None",
    "1_0", "~",
)


class Written(unittest.TestCase):
    def test_each_step(self):
        for step, row in zip(STEPS, ROWS):
            self.assertEqual(written_steps([step]), row)

    def test_line_ends_between(self):
        self.assertEqual(written_steps(STEPS), "\n".join(ROWS))
        self.assertEqual(written_steps([("turn",), ("turn",)]), "turn\nturn")

    def test_none(self):
        self.assertEqual(written_steps([]), "")


class Read(unittest.TestCase):
    def check_place(self, place, *texts):
        for text in texts:
            with self.subTest(text=text), self.assertRaises(BadText) as caught:
                read_steps(text)
            self.assertEqual(caught.exception.place, place)

    def check_row(self, *rows):
        """None of these is a step, alone and among others."""
        for row in rows:
            if row:
                self.check_place(0, row)
            self.check_place(0, f"{row}\n", f"{row}\nturn", f"{row}\n{row}")
            self.check_place(1, f"turn\n{row}", f"ask 3 11 -40\n{row}\nsend")
            self.check_place(9, "\n".join([*ROWS, row, *ROWS]))

    def test_each_step(self):
        for step, row in zip(STEPS, ROWS):
            self.assertEqual(read_steps(row), [step])

    def test_rows(self):
        self.assertEqual(read_steps("\n".join(ROWS)), STEPS)
        self.assertEqual(read_steps("send\nsend"), [("send",), ("send",)])

    def test_none(self):
        self.assertEqual(read_steps(""), [])

    def test_an_empty_row(self):
        self.check_place(0, "\n", "\n\n", "\nturn")
        self.check_place(1, "turn\n", "turn\n\nturn")
        self.check_row("")

    def test_odd_words(self):
        self.check_row(
            "go", "Turn", "TURN", "turns", "tur", "t", "come8", "8", "8 come", "-", "come,8", "'turn'", "()", "ask3 1 2",
            "hear 1", "deeds", "is_still", "edition", "x 1", "gone", "settled",
        )

    def test_a_number_where_none_may_stand(self):
        self.check_row("turn 0", "send 1", "turn turn", "send -", "turn send", "turn 1 2")

    def test_a_word_too_few_and_too_many(self):
        for word in WITH_ONE:
            self.check_row(word, f"{word} 1 2", f"{word} 1 2 3", f"{word} 1 turn")
        self.check_row("ask", "ask 3", "ask 3 11", "ask 3 11 -40 0", "ask 3 11 -40 ask")

    def test_blanks(self):
        self.check_row(
            " ", "  ", " turn", "turn ", "turn  ", "  turn", " come 8", "come  8", "come 8 ", "come ", "ask 3  11 -40",
            "ask 3 11  -40", "ask  3 11 -40", "ask 3 11 -40 ", "ask 3 11 - 40", "come - 8",
        )

    def test_odd_numbers(self):
        for number in ODD_NUMBERS:
            self.check_row(*[f"{word} {number}" for word in WITH_ONE])
            self.check_row(f"ask {number} 1 2", f"ask 1 {number} 2", f"ask 1 2 {number}")

    def test_numbers_of_all_lengths(self):
        for number in (0, 1, 9, 10, 99, 100, 999999, 1000000, 9999999):
            for sign in (1, -1):
                told = sign * number
                for word in WITH_ONE:
                    self.assertEqual(read_steps(f"{word} {told}"), [(word, told)])
                self.assertEqual(read_steps(f"ask {told} {told} {told}"), [("ask", told, told, told)])

    def test_of_several_the_first(self):
        self.check_place(2, "turn\nsend\nx\n\nturn 1")
        self.check_place(0, "x\ny\nz")

    def test_the_refusal_is_of_its_own_class(self):
        with self.assertRaises(DrainError) as caught:
            read_steps("x")
        self.assertIs(caught.exception.__class__, BadText)


class Drawn(unittest.TestCase):
    def drawn_steps(self, chance):
        steps = [drawn_step(chance) for many in range(chance.choice((0, 1, 2, 20, 40)))]
        far = chance.choice((9999999, -9999999, chance.randint(-9999999, 9999999)))
        return [*steps, (chance.choice(WITH_ONE), far)] if chance.random() < 0.5 else steps

    def test_there_and_back(self):
        for seed in range(500):
            steps = self.drawn_steps(random.Random(seed))
            kept = list(steps)
            text = written_steps(steps)
            self.assertEqual((read_steps(text), own_read_steps(text), steps), (kept, kept, kept))
            self.assertEqual(written_steps(read_steps(text)), text)

    def test_spoilt_texts(self):
        odd = let = 0
        for seed in range(3000):
            chance = random.Random(seed)
            steps = [drawn_step(chance) for many in range(chance.randrange(5))]
            text = spoilt_text(chance, written_steps(steps), " 0123456789-~a\n\n  --00")
            with self.subTest(text=text):
                self.assertEqual(self.told(text), own_read_steps(text))
            odd += isinstance(own_read_steps(text), int)
            let += isinstance(own_read_steps(text), list)
        # So that many were refused, and many read.
        self.assertGreater(min(odd, let), 300)

    def told(self, text):
        try:
            return read_steps(text)
        except BadText as refusal:
            return refusal.place


class Played(unittest.TestCase):
    def check_refused(self, refusal, first, steps):
        for behind in ([], [("come", 20)], [("carry", 0), ("turn",)]):
            with self.subTest(steps=steps), self.assertRaises(DrainError) as caught:
                played(first, [*steps, *behind])
            self.assertIs(caught.exception.__class__, refusal)

    def test_no_steps(self):
        for first in (0, 19):
            told, world = played(first, [])
            self.assertEqual(told, [])
            self.assertIs(world.__class__, World)
            self.assertEqual(world_view(world), world_view(World(first)))

    def test_what_each_tells(self):
        told, world = played(3, [
            ("settle", 99), ("come", 8), ("ask", 0, 11, -40), ("send",), ("twice", 3), ("lose", 0), ("carry", 1),
            ("settle", 0), ("settle", 99), ("ask", 0, 11, 40), ("turn",), ("settle", 99), ("farewell", 3),
            ("settle", 99),
        ])
        self.assertEqual(told[:8], [2, None, 1, 4, None, None, None, 0])
        self.assertEqual((told[9], told[10], told[12]), (2, None, None))
        self.assertEqual(world.edition(), (5, 1, (8,) * 12))
        self.assertEqual([deed[:6] for house, deed in world.deeds()], [(11, 1, 0, 1, -40, 960), (11, 2, 0, 2, 40, 0)])
        self.assertTrue(world.is_still())

    def test_the_example_of_a_text(self):
        told, world = played(3, read_steps("settle 99\nask 3 11 -40\nsettle 99"))
        self.assertEqual(told[1], 1)
        self.assertEqual(world.deeds(), [(3, (11, 1, 3, 1, -40, 960, 0))])

    def test_no_first_house(self):
        for first in BAD_HOUSES:
            self.check_refused(BadHouse, first, [])
            self.check_refused(BadHouse, first, [("settle", 100)])
            self.check_refused(BadHouse, first, [("ask", 6, 0, 0)])

    def test_refusals_of_the_board(self):
        for house in BAD_HOUSES:
            self.check_refused(BadHouse, 0, [("come", house)])
            self.check_refused(BadHouse, 0, [("turn",), ("farewell", house)])
        self.check_refused(Known, 0, [("come", 0)])
        self.check_refused(NoHouse, 0, [("farewell", 1)])
        self.check_refused(LastHouse, 0, [("farewell", 0)])
        self.check_refused(TooMany, 0, [("come", house) for house in range(1, 7)])

    def test_refusals_of_asks(self):
        for asker in BAD_ASKERS:
            self.check_refused(BadAsker, 0, [("ask", asker, 12, 100)])
        for slot in BAD_SLOTS:
            self.check_refused(BadAsk, 0, [("ask", 0, slot, 0)])
        for more in BAD_MORES:
            self.check_refused(BadAsk, 0, [("ask", 0, 0, more)])
        self.check_refused(Busy, 0, [("ask", 0, 0, 0), ("ask", 0, 0, 0)])

    def test_refusals_of_the_road(self):
        for word in ("carry", "twice", "lose"):
            for place in (0, -1, True):
                self.check_refused(NoLetter, 0, [(word, place)])
            for place in (1, -1, False):
                self.check_refused(NoLetter, 0, [("send",), (word, place)])
        for most in (-1, 100, True):
            self.check_refused(BadCount, 0, [("settle", most)])

    def test_of_several_the_first(self):
        self.check_refused(NoLetter, 0, [("send",), ("carry", 1), ("come", 0), ("settle", 100)])
        self.check_refused(Known, 0, [("send",), ("come", 0), ("carry", 1), ("settle", 100)])
        self.check_refused(BadCount, 0, [("settle", 100), ("come", 0)])

    def test_drawn_steps(self):
        """Against a world whose steps are done one by one."""
        refused = 0
        for seed in range(60):
            chance = random.Random(seed)
            first, steps = chance.randrange(20), [drawn_step(chance) for many in range(200)]
            with self.subTest(seed=seed):
                refused += self.check_one_by_one(first, steps)
        self.assertGreater(refused, 1000)

    def check_one_by_one(self, first, steps):
        """Play what isn't refused, and each step that is behind what was done ahead; tells how many are."""
        world, told, taken, refused = World(first), [], [], 0
        for step in steps:
            one = done(world, step)
            if isinstance(one, int) or one is None:
                taken.append(step)
                told.append(one)
                continue
            refused += 1
            with self.assertRaises(DrainError) as caught:
                played(first, [*taken, step, *steps])
            self.assertIs(caught.exception.__class__, one)
        all_told, other = played(first, taken)
        self.assertEqual((all_told, world_view(other)), (told, world_view(world)))
        self.assertEqual((other.send(), other.settle(99)), (world.send(), world.settle(99)))
        self.assertEqual(world_view(other), world_view(world))
        return refused

    def test_the_steps_stay_and_may_be_changed(self):
        steps = [("ask", 0, 11, -40), ("come", 8), ("settle", 99), ("turn",), ("send",)]
        kept = copy.deepcopy(steps)
        told, world = played(3, steps)
        self.assertEqual(steps, kept)
        ahead = (list(told), world_view(world))
        steps.clear()
        self.assertEqual((told, world_view(world)), ahead)
        again, other = played(3, kept)
        self.assertEqual((again, world_view(other)), ahead)

    def test_refused_steps_stay(self):
        steps = [("come", 8), ("come", 8), ("turn",)]
        with self.assertRaises(Known):
            played(3, steps)
        self.assertEqual(steps, [("come", 8), ("come", 8), ("turn",)])

    def test_each_world_is_a_new_one(self):
        steps = [("ask", 0, 11, -40), ("settle", 99)]
        told, world = played(3, steps)
        kept = (list(told), world_view(world))
        other_told, other = played(3, steps)
        self.assertEqual((other_told, world_view(other)), kept)
        other_told.clear()
        other.turn()
        other.ask(0, 0, 1)
        other.settle(99)
        self.assertEqual((told, world_view(world)), kept)


if __name__ == "__main__":
    unittest.main()
