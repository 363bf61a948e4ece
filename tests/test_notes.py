"""Points 1, 2 and 15: editions as texts."""

import copy
import random
import unittest

from drainhouse.board import Board
from drainhouse.errors import BadEdition, BadText, DrainError
from drainhouse.notes import read, written
from tests.drawn import spoilt_text
from tests.own_reader import own_read
from tests.village import BAD_HOUSES, FAR

RISING = tuple(range(12))
OWNERS = "0 1 2 3 4 5 6 7 8 9 10 11"
# A text for each edition.
PAIRS = (
    ((1, 0, RISING), f"1 0 {OWNERS}"),
    ((1, None, RISING), f"1 - {OWNERS}"),
    ((1000000, 1000000, RISING), f"1000000 1000000 {OWNERS}"),
    ((1000000, None, RISING), f"1000000 - {OWNERS}"),
    ((10, 100, (0,) * 12), "10 100" + " 0" * 12),
    ((999999, 1, (19,) * 12), "999999 1" + " 19" * 12),
    ((7, 0, (0, 19) * 6), "7 0" + " 0 19" * 6),
)


def drawn_edition(chance):
    number = chance.choice((1, 1000000, chance.randint(1, 1000000), chance.randint(1, 20)))
    make = chance.choice((None, 0, 1000000, chance.randint(0, 1000000), chance.randint(0, 20)))
    return (number, make, tuple(chance.choice((0, 19, chance.randrange(20))) for slot in range(12)))


class Written(unittest.TestCase):
    def test_words_with_one_blank_between(self):
        for edition, text in PAIRS:
            with self.subTest(text=text):
                self.assertEqual(written(edition), text)

    def test_a_boards_editions(self):
        board = Board(19)
        self.assertEqual(written(board.edition()), "1 0" + " 19" * 12)
        board.turn()
        board.hear(("has", 19, 1))
        self.assertEqual(written(board.edition()), "2 -" + " 19" * 12)

    def test_no_edition(self):
        numbers = (0, -1, 1000001, None, True, FAR, -FAR)
        makes = (-1, 1000001, True, False, FAR, -FAR)
        owners = ((), RISING[:11], (*RISING, 0), None, (None,) * 12, (1, RISING), ((1,) * 12,))
        spoilt = [(*RISING[:at], other, *RISING[at + 1:]) for at in (0, 5, 11) for other in (*BAD_HOUSES, None)]
        for edition in (
            *[(number, 0, RISING) for number in numbers], *[(1, make, RISING) for make in makes],
            *[(1, 0, told) for told in (*owners, *spoilt)],
            (), (1,), (1, 0), (1, 0, RISING, 0), (1, RISING, 0), RISING, (RISING, 0, 1), (0, 1, RISING),
        ):
            with self.subTest(edition=edition), self.assertRaises(BadEdition):
                written(edition)


class Read(unittest.TestCase):
    def check_place(self, place, *texts):
        for text in texts:
            with self.subTest(text=text), self.assertRaises(BadText) as caught:
                read(text)
            self.assertEqual(caught.exception.place, place)

    def words(self, place, *others):
        """Texts with another word at this place."""
        words = f"1 0 {OWNERS}".split()
        return [" ".join([*words[:place], other, *words[place + 1:]]) for other in others]

    def test_what_was_written(self):
        for edition, text in PAIRS:
            with self.subTest(text=text):
                self.assertEqual(read(text), edition)

    def test_numbers(self):
        """One to seven figures, none needless."""
        odd = (
            "00", "01", "0000001", "12345678", "10000000", "100000000", "-1", "-0", "+1", "1.0", "1,0", "1_0", "0x1",
            "x", "one", "None", "True", "~", "", "--", "1-", "1\n", "\n1", "1\n0", "\n",
        )
        self.check_place(0, *self.words(0, *odd, "-"))
        self.check_place(1, *self.words(1, *odd, "-0", "-1", "--"))

    def test_owners(self):
        odd = (
            "20", "21", "30", "100", "119", "1000000", "12345678", "00", "01", "09", "019", "-1", "-0", "-", "+1",
            "x", "", "None", "1\n", "\n1", "3\n3",
        )
        for place in range(2, 14):
            self.check_place(place, *self.words(place, *odd))
            for owner in (0, 9, 10, 19):
                text, = self.words(place, str(owner))
                self.assertEqual(read(text)[2][place - 2], owner)

    def test_just_no_edition(self):
        for text in (
            *self.words(0, "0", "1000001", "9999999"), *self.words(1, "1000001", "9999999"),
            f"0 - {OWNERS}", f"0 9999999 {OWNERS}", f"9999999 - {OWNERS}",
        ):
            with self.subTest(text=text), self.assertRaises(BadEdition):
                read(text)

    def test_a_bad_text_is_no_bad_edition(self):
        """The words are looked at first, all of them."""
        self.check_place(13, f"0 9999999 {OWNERS[:-2]}20")
        self.check_place(14, f"0 9999999 {OWNERS} 3")
        self.check_place(13, f"0 9999999 {OWNERS[:-3]}")

    def test_too_few(self):
        words = f"1 - {OWNERS}".split()
        for many in range(14):
            self.check_place(many, " ".join(words[:many]))

    def test_no_words(self):
        self.check_place(0, "", " ", "  ", "\n")

    def test_too_many(self):
        text = f"1 - {OWNERS}"
        self.check_place(14, *[f"{text} {more}" for more in ("0", "20", "-", "x", "0 1", "x 0 x", OWNERS)])

    def test_two_blanks(self):
        words = f"1 0 {OWNERS}".split()
        for place in range(1, 14):
            self.check_place(place, " ".join(words[:place]) + "  " + " ".join(words[place:]))

    def test_a_blank_at_the_begin_or_the_end(self):
        text = f"1 0 {OWNERS}"
        self.check_place(0, " " + text, "  " + text)
        self.check_place(14, text + " ", text + "  ")
        self.check_place(2, "1 0 ")

    def test_other_signs_between(self):
        self.check_place(0, f"1 0 {OWNERS}".replace(" ", "\n"), f"1 0 {OWNERS}".replace(" ", ","), "1\n0 " + OWNERS)
        self.check_place(13, f"1 0 {OWNERS}\n", f"1 0 {OWNERS}\n3")
        self.check_place(0, f"\n1 0 {OWNERS}")

    def test_of_several_the_first(self):
        self.check_place(0, "x x x", "01 01 20")
        self.check_place(1, "1 x 20", "1 x", f"1  {OWNERS} 20 20")
        self.check_place(3, f"1 0 3 20 {OWNERS} 3")
        self.check_place(3, "1 0 3 x", "1 0 3")

    def test_refusals_are_of_their_own_class(self):
        for text, refusal in (("", BadText), (f"0 0 {OWNERS}", BadEdition)):
            with self.assertRaises(DrainError) as caught:
                read(text)
            self.assertIs(caught.exception.__class__, refusal)


class Drawn(unittest.TestCase):
    def test_there_and_back(self):
        for seed in range(500):
            edition = drawn_edition(random.Random(seed))
            kept = copy.deepcopy(edition)
            text = written(edition)
            self.assertEqual(read(text), kept)
            self.assertEqual(own_read(text), kept)
            self.assertEqual((edition, written(read(text))), (kept, text))

    def test_spoilt_texts(self):
        found = set()
        for seed in range(3000):
            chance = random.Random(seed)
            text = spoilt_text(chance, written(drawn_edition(chance)), " 0123456789-~a\n  00")
            with self.subTest(text=text):
                self.assertEqual(self.told(text), own_read(text))
            found.add(own_read(text) if isinstance(own_read(text), int) else own_read(text) is None)
        # So that each place was refused, and texts were read, and told of no edition.
        self.assertEqual(found, {*range(15), True, False})

    def told(self, text):
        try:
            return read(text)
        except BadText as refusal:
            return refusal.place
        except BadEdition:
            return None


if __name__ == "__main__":
    unittest.main()
