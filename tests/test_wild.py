"""Points 1 and 5 to 10: changes, asks, and letters late, twice, lost and in any order; then calm."""

import random
import unittest

from drainhouse.errors import DrainError
from tests.watched import Watched


class Game:
    """Drawn turns in a watched village, over a road of its own."""

    def __init__(self, test, seed, changes, loss):
        self.test = test
        self.chance = random.Random(seed)
        self.changes, self.loss = changes, loss
        self.village = Watched(self.chance.choice((0, 19, self.chance.randrange(20))), test)
        self.road = []

    def turn(self):
        doing = self.chance.random()
        if doing < self.changes:
            self.change()
        elif doing < self.changes + 0.15:
            self.ask()
        elif doing < self.changes + 0.35 or not self.road:
            sent = self.village.send()
            self.road += [noted for noted in sent if self.chance.random() >= self.loss]
        else:
            for many in range(self.chance.randint(1, 8)):
                self.hear_one()

    def change(self):
        village, chance = self.village, self.chance
        try:
            doing = chance.randrange(5)
            if doing < 2:
                village.come(chance.randrange(20))
            elif doing < 4:
                village.farewell(chance.choice(village.board.houses()))
            else:
                village.turn()
        except DrainError:
            pass

    def ask(self):
        village, chance = self.village, self.chance
        name = chance.randrange(6)
        if name not in village.askers:
            village.asker(name, chance.choice(sorted(village.editions)))
        slot = chance.choice((0, 11, chance.randrange(12)))
        village.begin(name, slot, chance.choice((-99, 99, chance.randint(-99, 99))))

    def hear_one(self):
        if not self.road:
            return
        place = self.chance.choice((0, len(self.road) - 1, self.chance.randrange(len(self.road))))
        noted = self.road[place]
        if self.chance.random() >= 0.2:
            del self.road[place]
        if self.chance.random() < 0.1:
            # A letter of long ago.
            noted = self.chance.choice(self.village.seen)
        if noted[0][:2] not in self.village.deaf:
            self.village.hear_noted(noted)

    def calm(self):
        """The rounds of point 10, in drawn orders; what lies on the road stays there."""
        rounds = 4 * self.village.board.waiting() + 40
        for done in range(rounds):
            sent = self.village.send()
            self.chance.shuffle(sent)
            for noted in sent:
                if noted[0][:2] not in self.village.deaf:
                    self.village.hear_noted(noted)
            if self.village.is_calm():
                break
        self.village.check_calm()


class Wild(unittest.TestCase):
    def play(self, seed, turns, changes, loss):
        game = Game(self, seed, changes, loss)
        for turn in range(turns):
            game.turn()
        game.calm()
        return game

    def test_many_changes(self):
        for seed in range(25):
            with self.subTest(seed=seed):
                self.play(seed, 200, 0.15, 0.3)

    def test_few_changes(self):
        for seed in range(100, 125):
            with self.subTest(seed=seed):
                self.play(seed, 200, 0.04, 0.1)

    def test_most_letters_lost(self):
        for seed in range(200, 215):
            with self.subTest(seed=seed):
                self.play(seed, 250, 0.05, 0.8)

    def test_much_is_done(self):
        deeds = changes = moved = 0
        for seed in range(300, 310):
            game = self.play(seed, 150, 0.08, 0.2)
            deeds += len(game.village.done_asks)
            changes += game.village.board.edition()[0]
            moved += len(game.village.houses)
        # So that the games are no games about nothing.
        self.assertGreater(deeds, 100)
        self.assertGreater(changes, 50)
        self.assertGreater(moved, 30)

    def test_calm_and_wild_in_turn(self):
        for seed in range(400, 410):
            game = Game(self, seed, 0.1, 0.3)
            with self.subTest(seed=seed):
                for part in range(4):
                    for turn in range(60):
                        game.turn()
                    game.calm()

    def test_heard_again_behind_all_that(self):
        for seed in range(500, 515):
            with self.subTest(seed=seed):
                game = self.play(seed, 150, 0.1, 0.3)
                village = game.village
                told = village.view()
                again = list(village.seen)
                for order in range(2):
                    game.chance.shuffle(again)
                    village.hear_all([letter for letter, note in again])
                    self.assertEqual(village.view(), told)
                    self.assertTrue(village.is_calm())

    def test_one_that_hears_nothing(self):
        """A deaf asker keeps nobody from being answered."""
        for seed in range(600, 610):
            game = Game(self, seed, 0.1, 0.3)
            game.village.deaf = {("asker", 0), ("asker", 5)}
            with self.subTest(seed=seed):
                for turn in range(150):
                    game.turn()
                game.calm()


if __name__ == "__main__":
    unittest.main()
