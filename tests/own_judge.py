"""Judge and in_one without the program: deeds looked through anew at each place, rows tried in turn."""


def own_judge(deeds):
    """The first place at which a deed isn't what the deeds ahead make of it."""
    for place, deed in enumerate(deeds):
        slot, count, asker, number, more, worth, make = deed
        ahead = deeds[:place]
        mores = [other[4] for other in ahead if other[0] == slot]
        asked = [other for other in ahead if other[2] == asker]
        makes = [other[6] for other in ahead]
        if (count, number) != (len(mores) + 1, len(asked) + 1) or make < max([0, *makes]):
            return place
        if worth not in range(1000) or (sum(mores) + more - worth) % 1000 != 0:
            return place
    return None


def all_rows(rows):
    """All ways to put the rows into one, each house's deeds in turn, as places ascend."""
    if not any(rows):
        yield []
    for place, deeds in enumerate(rows):
        if deeds:
            for rest in all_rows([*rows[:place], deeds[1:], *rows[place + 1:]]):
                yield [(place, deeds[0]), *rest]


def first_of_all(rows):
    """The first of all rows that are let, and how many are let."""
    let = [row for row in all_rows(rows) if own_judge([deed for place, deed in row]) is None]
    return (let[0] if let else None, len(let))


def is_first(row, rows):
    """Whether the row has all deeds, each house's in turn, is let, and no house could have come sooner."""
    if [[deed for at, deed in row if at == place] for place in range(len(rows))] != rows:
        return False
    if own_judge([deed for place, deed in row]) is not None:
        return False
    left = [list(deeds) for deeds in rows]
    for place, deed in row:
        behind = [other for deeds in left for other in deeds]
        # Whoever comes sooner has a deed next that must wait for another one.
        if not all(must_wait(deeds[0], behind) for deeds in left[:place] if deeds):
            return False
        left[place].pop(0)
    return True


def must_wait(deed, others):
    """Whether one of the others must come ahead: of the same slot or asker, or by a lesser make."""
    return any(
        other[6] < deed[6] or (other[0] == deed[0] and other[1] < deed[1])
        or (other[2] == deed[2] and other[3] < deed[3])
        for other in others
    )
