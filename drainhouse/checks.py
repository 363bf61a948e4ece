"""What a house, an asker, a slot, owners and an edition are."""

from drainhouse.errors import BadAsker, BadEdition, BadHouse

SLOTS = 12
ASKERS = 6
LAST_NAME = 19
MOST_HOUSES = 6
LAST_NUMBER = 1000000


def is_within(value, least, most):
    """Whether the value is a number from least to most."""
    # True and False are no numbers here, though Python counts with them.
    return isinstance(value, int) and not isinstance(value, bool) and least <= value <= most


def is_house(value):
    """Whether the value names a house."""
    return is_within(value, 0, LAST_NAME)


def is_slot(value):
    """Whether the value is a slot."""
    return is_within(value, 0, SLOTS - 1)


def is_owners(value):
    """Whether the value is a tuple with a house for each slot."""
    return isinstance(value, tuple) and len(value) == SLOTS and all([is_house(owner) for owner in value])


def is_edition(value):
    """Whether the value is a number, a make (or None, while all hold still) and owners."""
    if not isinstance(value, tuple) or len(value) != 3:
        return False
    number, make, owners = value
    if make is not None and not is_within(make, 0, LAST_NUMBER):
        return False
    return is_within(number, 1, LAST_NUMBER) and is_owners(owners)


def are_houses(values):
    """Whether the list is a rising one of one to six houses."""
    if not 1 <= len(values) <= MOST_HOUSES or not all([is_house(house) for house in values]):
        return False
    return values == sorted(set(values))


def check_house(house):
    """Refuse what names no house."""
    if not is_house(house):
        raise BadHouse("a house is a number from 0 to 19")


def check_asker(asker):
    """Refuse what names no asker."""
    if not is_within(asker, 0, ASKERS - 1):
        raise BadAsker("an asker is a number from 0 to 5")


def check_edition(edition):
    """Refuse what is no edition."""
    if not is_edition(edition):
        raise BadEdition("an edition is a number, a make or None, and owners")
