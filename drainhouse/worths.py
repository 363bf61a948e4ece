"""How a slot's worth grows."""

WORTHS = 1000


def with_more(worth, more):
    """The worth with more added, its rest by 1,000."""
    return (worth + more) % WORTHS
