"""Steps of a world: as texts, and done."""

from drainhouse.errors import BadText
from drainhouse.figures import is_signed
from drainhouse.world import World

# How many numbers stand behind each word.
NUMBERS = {
    "come": 1, "farewell": 1, "turn": 0, "ask": 3, "send": 0, "carry": 1, "twice": 1, "lose": 1, "settle": 1,
}


def written_steps(steps):
    """The steps as rows of words."""
    return "\n".join([" ".join([str(part) for part in step]) for step in steps])


def read_steps(text):
    """The steps that are written so."""
    # The empty text would else be one empty row.
    rows = text.split("\n") if text else []
    return [read_step(place, row) for place, row in enumerate(rows)]


def read_step(place, row):
    """The step that is written in the row at this place."""
    word, *numbers = row.split(" ")
    if NUMBERS.get(word) != len(numbers) or not all([is_signed(number) for number in numbers]):
        raise BadText(place)
    values = [int(number) for number in numbers]
    return (word, *values)


def played(first, steps):
    """A world of this first house, in which the steps were done: (what each told, the world)."""
    world = World(first)
    told = [do_step(world, step) for step in steps]
    return (told, world)


def do_step(world, step):
    """Do a step in a world; tells what it tells, None for nothing."""
    match step:
        case ("come", house):
            return world.come(house)
        case ("farewell", house):
            return world.farewell(house)
        case ("turn",):
            return world.turn()
        case ("ask", asker, slot, more):
            return world.ask(asker, slot, more)
        case ("send",):
            return world.send()
        case ("carry", place):
            return world.carry(place)
        case ("twice", place):
            return world.twice(place)
        case ("lose", place):
            return world.lose(place)
        case ("settle", most):
            return world.settle(most)
