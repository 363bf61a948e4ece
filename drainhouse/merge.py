"""The deeds of several houses, put into one row."""

from drainhouse.tally import Tally


def in_one(rows):
    """The first row of (place, deed) of all deeds, each house's in turn, that can be; None, if there is none."""
    tally = Tally()
    begun = [0] * len(rows)
    row = []
    # Makes never fall in a row that can be, so it has them in this order.
    for make in sorted([deed[-1] for deeds in rows for deed in deeds]):
        place = next_place(rows, begun, tally, make)
        if place is None:
            return None
        deed = rows[place][begun[place]]
        begun[place] += 1
        tally.note(deed)
        row.append((place, deed))
    return row


def next_place(rows, begun, tally, make):
    """The first house whose next deed has this make and can be next; None, if there is none.

    The first one is never wrong: which deeds must come ahead of a deed (of its slot, its asker, its house, and all
    of lesser makes) is so in every row that can be, so a deed that can be next now bars none of the others.
    """
    for place, deeds in enumerate(rows):
        if begun[place] < len(deeds):
            deed = deeds[begun[place]]
            if deed[-1] == make and tally.lets(deed):
                return place
    return None
