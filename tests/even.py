"""All even owners, looked through without the program: what tests hold shared's answers against."""

from collections import Counter
from itertools import product

SLOTS = 12


def targets(houses):
    """All ways to tell how many slots each house has in the end."""
    low = SLOTS // len(houses)
    for extras in product((0, 1), repeat=len(houses)):
        if sum(extras) == SLOTS - low * len(houses):
            yield {house: low + extra for house, extra in zip(houses, extras)}


def arranged(left):
    """All tuples in which each house stands as often as left tells."""
    if not any(left.values()):
        yield ()
        return
    for house in left:
        if left[house]:
            for rest in arranged({**left, house: left[house] - 1}):
                yield (house, *rest)


def all_even(houses):
    """All even owners by these houses, each once."""
    for target in targets(houses):
        yield from arranged(target)


def moved(owners, others):
    """How many slots get another owner."""
    return sum(owner != other for owner, other in zip(owners, others))


def is_even(owners, houses):
    """Whether the owners are only these houses, and as many or one more each."""
    counts = Counter(owners)
    shares = [counts[house] for house in houses]
    return set(owners) <= set(houses) and max(shares) - min(shares) <= 1


def best_of_all(owners, houses):
    """The best of all even owners, by its (moved, tuple), found beginning by beginning.

    Of two beginnings that give each house as many slots, only the better one can lead to the best of all,
    since whatever goes on behind the one goes on behind the other as well.
    """
    low, larger = divmod(SLOTS, len(houses))
    begun = {(0,) * len(houses): (0, ())}
    for owner in owners:
        longer = {}
        for counts, (cost, chosen) in begun.items():
            for place, house in enumerate(houses):
                grown = counts[:place] + (counts[place] + 1,) + counts[place + 1:]
                if grown[place] > low + 1 or sum(count > low for count in grown) > larger:
                    continue
                found = (cost + (house != owner), (*chosen, house))
                longer[grown] = min(found, longer.get(grown, found))
        begun = longer
    return min(begun.values())
