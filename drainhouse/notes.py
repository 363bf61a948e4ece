"""Editions as texts."""

from drainhouse.checks import check_edition, is_house
from drainhouse.errors import BadText
from drainhouse.figures import is_plain

NO_MAKE = "-"
MAKE_PLACE = 1
FIRST_OWNER = 2
# A number, a make, and an owner for each of the twelve slots.
WORDS = 14


def written(edition):
    """The edition as words: its number, its make, its owners."""
    check_edition(edition)
    number, make, owners = edition
    words = [number, NO_MAKE if make is None else make, *owners]
    return " ".join([str(word) for word in words])


def read(text):
    """The edition that is written so."""
    words = text.split(" ")
    for place in range(WORDS):
        if place == len(words) or not can_stand(words[place], place):
            raise BadText(place)
    if len(words) > WORDS:
        raise BadText(WORDS)
    number, make, *owners = [None if word == NO_MAKE else int(word) for word in words]
    edition = (number, make, tuple(owners))
    check_edition(edition)
    return edition


def can_stand(word, place):
    """Whether the word can stand at this place of an edition."""
    if word == NO_MAKE:
        return place == MAKE_PLACE
    return is_plain(word) and (place < FIRST_OWNER or is_house(int(word)))
