"""The letters that board and houses write to each other: (kind, name, what)."""


def edition_letter(house, edition):
    """Tells a house of an edition."""
    return ("house", house, ("edition", edition))


def has_letter(house, number):
    """Tells the board that a house has the edition of this number."""
    return ("board", 0, ("has", house, number))
