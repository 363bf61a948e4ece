"""Drawn steps, worlds and deeds: what tests of the whole program play with."""

import random

from drainhouse.errors import DrainError
from drainhouse.world import World


def drawn_step(chance):
    """A drawn step: a method's name, and what it is handed; some steps are refused."""
    doing = chance.random()
    if doing < 0.12:
        return chance.choice((("come", chance.randint(-1, 20)), ("farewell", chance.randint(-1, 20)), ("turn",)))
    if doing < 0.3:
        return ("ask", chance.randint(-1, 6), chance.randint(-1, 12), chance.choice((-100, -99, 0, 99, 100, 5)))
    if doing < 0.45:
        return ("send",)
    if doing < 0.47:
        return ("settle", chance.choice((-1, 0, 1, 2, 99, 100)))
    place = chance.choice((0, 0, -1, chance.randrange(12), chance.randrange(80)))
    return (chance.choice(("carry", "carry", "twice", "lose")), place)


def done(world, step):
    """What a step tells, or by which class it is refused."""
    name, *handed = step
    try:
        return getattr(world, name)(*handed)
    except DrainError as refusal:
        return refusal.__class__


def drawn_world(seed, most):
    """A world with so many deeds, in which houses came and went, the make was turned, and letters went astray."""
    chance = random.Random(seed)
    world = World(chance.randrange(20))
    while len(world.deeds()) < most:
        for asker in range(6):
            done(world, ("ask", asker, chance.choice((0, 11, chance.randrange(12))), chance.randint(-99, 99)))
        if chance.random() < 0.3:
            step = (chance.choice(("come", "farewell")), chance.randrange(20))
            done(world, chance.choice((step, step, step, ("turn",))))
        lying = world.send()
        while lying and len(world.deeds()) < most:
            word = chance.choice(("carry", "carry", "carry", "twice", "lose"))
            done(world, (word, chance.randrange(lying)))
            lying -= word != "twice"
    return world


def deeds_of(world):
    """The deeds of a world, as they came."""
    return [deed for house, deed in world.deeds()]


def rows_of(world):
    """The deeds of each of twenty houses."""
    return [[deed for house, deed in world.deeds() if house == name] for name in range(20)]


def drawn_deeds(chance, many, slots, askers):
    """Deeds that can be, in few slots and by few askers."""
    deeds, worths, counts, numbers, make = [], {}, {}, {}, chance.randrange(2)
    for at in range(many):
        slot, asker, more = chance.choice(slots), chance.choice(askers), chance.randint(-99, 99)
        worths[slot] = (worths.get(slot, 0) + more) % 1000
        counts[slot] = counts.get(slot, 0) + 1
        numbers[asker] = numbers.get(asker, 0) + 1
        make += chance.random() < 0.2
        deeds.append((slot, counts[slot], asker, numbers[asker], more, worths[slot], make))
    return deeds


def dealt(chance, deeds, many):
    """The deeds, dealt out to so many rows, in turn."""
    rows = [[] for place in range(many)]
    for deed in deeds:
        chance.choice(rows).append(deed)
    return rows


def spoilt_part(chance, deed):
    """The deed with one part told otherwise."""
    part = chance.randrange(7)
    other = chance.choice((deed[part] - 1, deed[part] + 1, 0, deed[part] + 1000))
    return (*deed[:part], other, *deed[part + 1:])


def spoilt_deeds(chance, deeds):
    """The deeds with one part told otherwise, one left out, one told twice, or two exchanged."""
    deeds = list(deeds)
    place = chance.randrange(len(deeds))
    doing = chance.choice(("part", "out", "twice", "exchange"))
    if doing == "part":
        deeds[place] = spoilt_part(chance, deeds[place])
    elif doing == "out":
        del deeds[place]
    elif doing == "twice":
        deeds.insert(chance.randrange(len(deeds) + 1), deeds[place])
    else:
        other = chance.choice((chance.randrange(len(deeds)), min(place + 1, len(deeds) - 1)))
        deeds[place], deeds[other] = deeds[other], deeds[place]
    return deeds


def spoilt_text(chance, text, signs):
    """The text with one sign changed, left out or put in."""
    place = chance.randrange(len(text) + 1)
    sign = chance.choice(signs)
    return chance.choice((
        text[:place] + sign + text[place + 1:], text[:place] + text[place + 1:], text[:place] + sign + text[place:],
    ))
