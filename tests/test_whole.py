"""Point 1, over the whole program: what is told is new each time, what is handed in is neither changed nor kept."""

import copy
import random
import unittest

from drainhouse.errors import DrainError
from drainhouse.judge import judge
from drainhouse.merge import in_one
from drainhouse.notes import read, written
from drainhouse.shares import shared
from drainhouse.steps import played, read_steps, written_steps
from drainhouse.world import World
from tests.drawn import deeds_of, done, drawn_step, drawn_world, rows_of
from tests.own_world import world_view
from tests.village import Village, settled_village

BOARD = ("edition", "houses", "letters", "settled", "waiting")
HOUSE = ("letters", "serves", "slots", "deeds", "edition", "is_gone")
ASKER = ("letters", "book", "is_busy", "answer")
WORLD = ("deeds", "answered", "serving", "gone", "worths", "edition", "is_still")


def spoil(told):
    """Change all that can be changed of what was told, or handed in."""
    if isinstance(told, (list, tuple)):
        for part in told:
            spoil(part)
    if isinstance(told, list):
        told.append("spoilt")
        del told[:len(told) // 2]


def plain(told):
    """What was told, with what a world tells in its stead."""
    if isinstance(told, tuple) and isinstance(told[-1], World):
        return (*told[:-1], world_view(told[-1]))
    return told


class Objects(unittest.TestCase):
    def check_told(self, made, names):
        for name in names:
            tell = getattr(made, name)
            told = tell()
            kept = copy.deepcopy(told)
            self.assertEqual(tell(), kept)
            spoil(told)
            self.assertEqual(tell(), kept, name)

    def check_village(self, village):
        self.check_told(village.board, BOARD)
        for house in village.houses.values():
            self.check_told(house, HOUSE)
        for asker in village.askers.values():
            self.check_told(asker, ASKER)

    def turn(self, village, chance):
        """A change or an ask, if it isn't refused; then some letters are heard, of which the hearer keeps nothing."""
        try:
            doing = chance.randrange(8)
            if doing < 2:
                village.come(chance.randrange(20))
            elif doing == 2:
                village.farewell(chance.choice(village.board.houses()))
            elif doing == 3:
                village.turn()
            else:
                chance.choice(list(village.askers.values())).ask(chance.randrange(12), chance.randint(-99, 99))
        except DrainError:
            pass
        letters = village.letters()
        for kind, name, what in chance.sample(letters, chance.randint(0, len(letters))):
            handed, kept = copy.deepcopy(what), copy.deepcopy(what)
            village.hearer(kind, name).hear(handed)
            self.assertEqual(handed, kept)
            village.note_edition()
            view, letters = copy.deepcopy(village.view()), copy.deepcopy(village.letters())
            spoil(handed)
            spoil(what)
            self.assertEqual((village.view(), village.letters()), (view, letters))

    def test_boards_houses_and_askers(self):
        for seed in range(12):
            chance = random.Random(seed)
            village = chance.choice((Village(0), Village(19), settled_village(3, 8, 11)))
            for name in range(6):
                village.asker(name)
            with self.subTest(seed=seed):
                for again in range(25):
                    self.turn(village, chance)
                    self.check_village(village)

    def test_worlds(self):
        for seed in range(12):
            chance = random.Random(seed)
            world = World(chance.randrange(20))
            with self.subTest(seed=seed):
                for again in range(80):
                    done(world, drawn_step(chance))
                    self.check_told(world, WORLD)

    def test_what_was_told_stays_as_it_was(self):
        for seed in range(6):
            chance = random.Random(seed)
            world = World(chance.randrange(20))
            told = []
            for again in range(60):
                done(world, drawn_step(chance))
                view = world_view(world)
                told.append((view, copy.deepcopy(view)))
            for view, kept in told:
                self.assertEqual(view, kept)


class Functions(unittest.TestCase):
    def calls(self, chance, seed):
        """Each function of the interface, and what it is handed."""
        world = drawn_world(seed, chance.choice((5, 60, 100)))
        steps = [("settle", 99), ("ask", 0, 11, -40), ("come", world.edition()[2][0] ^ 1), ("send",), ("settle", 99)]
        owners = tuple(chance.randrange(20) for slot in range(12))
        return [
            (shared, (owners, sorted(chance.sample(range(20), chance.randint(1, 6))))),
            (judge, (deeds_of(world),)), (judge, (deeds_of(world)[1:],)), (judge, ([],)),
            (in_one, (rows_of(world),)), (in_one, ([deeds_of(world)[1:], []],)), (in_one, ([],)),
            (written, (world.edition(),)), (read, (written(world.edition()),)),
            (written_steps, (steps,)), (written_steps, ([],)),
            (read_steps, (written_steps(steps),)), (read_steps, ("",)),
            (played, (world.edition()[2][0], steps)), (played, (3, [])),
        ]

    def test_told_again_and_spoilt_between(self):
        for seed in range(15):
            for function, handed in self.calls(random.Random(seed), seed):
                with self.subTest(seed=seed, function=function):
                    self.check_call(function, handed)

    def check_call(self, function, handed):
        kept = copy.deepcopy(handed)
        told = function(*handed)
        view = copy.deepcopy(plain(told))
        self.assertEqual(handed, kept)
        again = function(*handed)
        self.assertEqual(plain(again), view)
        # What was handed in may be changed, as may what was told at first: what was told then stays.
        spoil(handed)
        spoil(told)
        self.assertEqual(plain(again), view)
        self.assertEqual(plain(function(*kept)), view)

    def test_refused_again_and_the_same(self):
        for function, handed in (
            (shared, ((1,), [3, 2])), (written, ((0, -1, ()),)), (read, ("1 0 20",)), (read_steps, ("turn\nx",)),
            (played, (20, [("come", 20)])), (played, (0, [("send",), ("carry", 9), ("come", 20)])),
        ):
            kept = copy.deepcopy(handed)
            refusals = []
            for again in range(2):
                with self.assertRaises(DrainError) as caught:
                    function(*handed)
                refusals.append((caught.exception.__class__, getattr(caught.exception, "place", None)))
            self.assertEqual(handed, kept)
            self.assertEqual(refusals[0], refusals[1])


class Together(unittest.TestCase):
    """The parts, each by what the others tell."""

    def test_a_world_as_texts(self):
        for seed in range(20):
            chance = random.Random(seed)
            first, steps, told = chance.randrange(20), [], []
            world = World(first)
            for again in range(120):
                step = drawn_step(chance)
                one = done(world, step)
                if one is None or isinstance(one, int):
                    steps.append(step)
                    told.append(one)
            with self.subTest(seed=seed):
                again, other = played(first, read_steps(written_steps(steps)))
                self.assertEqual((again, world_view(other)), (told, world_view(world)))
                self.assertEqual(read(written(world.edition())), world.edition())

    def test_a_worlds_deeds(self):
        for seed in range(20):
            world = drawn_world(seed, 101)
            with self.subTest(seed=seed):
                self.assertIsNone(judge(deeds_of(world)))
                row = in_one(rows_of(world))
                # As they came is one row that is let, so the first one stands no later.
                places = [house for house, deed in world.deeds()]
                self.assertLessEqual([place for place, deed in row], places)
                self.assertEqual(sorted(row), sorted(world.deeds()))


if __name__ == "__main__":
    unittest.main()
