"""How slots are shared among houses."""

from drainhouse.checks import SLOTS, are_houses, is_owners
from drainhouse.errors import BadEdition, BadHouse


def shared(owners, houses):
    """The next owners: only these houses, even, the fewest slots moved, of these the first as tuples ascend."""
    if not is_owners(owners):
        raise BadEdition("owners are a tuple with a house for each slot")
    if not are_houses(houses):
        raise BadHouse("houses are a rising list of one to six numbers from 0 to 19")
    given = {house: 0 for house in houses}
    chosen = []
    for slot in range(SLOTS):
        house = first_owner(given, owners[slot:])
        given[house] += 1
        chosen.append(house)
    return tuple(chosen)


def first_owner(given, rest):
    """The first house that can get the first slot of the rest while as many of the rest as can be stay."""
    best = most_kept(given, rest)
    for house in given:
        kept = most_kept({**given, house: given[house] + 1}, rest[1:])
        stays = 1 if house == rest[0] else 0
        if kept is not None and kept + stays == best:
            return house


def most_kept(given, rest):
    """How many of the rest's slots can stay with their owners at the most, if all are shared evenly in the end.

    given tells how many slots each house was given already; None if they can't become even any more.
    """
    low, larger = divmod(SLOTS, len(given))
    kept = 0
    for_more = 0
    for house in given:
        room = low - given[house]
        if room < -1:
            return None
        if room == -1:
            larger -= 1
            continue
        kept += min(room, rest.count(house))
        if rest.count(house) > room:
            for_more += 1
    if larger < 0:
        return None
    # A house keeps one slot more only by having one of the larger shares, so these go to such houses first.
    return kept + min(larger, for_more)
