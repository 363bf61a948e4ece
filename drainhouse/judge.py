"""Whether deeds can be, as they came."""

from drainhouse.tally import Tally


def judge(deeds):
    """The place, from 0, of the first deed that can't be; None, if there is none."""
    tally = Tally()
    for place, deed in enumerate(deeds):
        if not tally.lets(deed):
            return place
        tally.note(deed)
    return None
