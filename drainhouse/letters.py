"""The letters that board, houses and askers write to each other: (kind, name, what)."""


def edition_letter(house, edition):
    """Tells a house of an edition."""
    return ("house", house, ("edition", edition))


def has_letter(house, number):
    """Tells the board that a house has the edition of this number."""
    return ("board", 0, ("has", house, number))


def give_letter(house, number, giver, slot, filled):
    """Gives a house a slot, with all that it is filled with, by the edition of this number."""
    return ("house", house, ("give", number, giver, slot, filled))


def taken_letter(giver, number, slot):
    """Tells the giver that the slot was taken by the edition of this number."""
    return ("house", giver, ("taken", number, slot))


def ask_letter(house, asker, number, slot, more, book):
    """Asks a house; book is the number of the edition that the asker knows."""
    return ("house", house, ("ask", asker, number, slot, more, book))


def answer_letter(asker, answer):
    """Answers an asker: (number, worth, count, make)."""
    return ("asker", asker, ("answer", answer))


def book_letter(asker, edition):
    """Tells an asker of an edition."""
    return ("asker", asker, ("book", edition))
