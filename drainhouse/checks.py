"""What a house, a list of houses and owners are."""

SLOTS = 12
LAST_NAME = 19
MOST_HOUSES = 6


def is_within(value, least, most):
    """Whether the value is a number from least to most."""
    # True and False are no numbers here, though Python counts with them.
    return isinstance(value, int) and not isinstance(value, bool) and least <= value <= most


def is_house(value):
    """Whether the value names a house."""
    return is_within(value, 0, LAST_NAME)


def is_owners(value):
    """Whether the value is a tuple with a house for each slot."""
    return isinstance(value, tuple) and len(value) == SLOTS and all([is_house(owner) for owner in value])


def are_houses(values):
    """Whether the list is a rising one of one to six houses."""
    if not 1 <= len(values) <= MOST_HOUSES or not all([is_house(house) for house in values]):
        return False
    return values == sorted(set(values))
