"""Readers of texts without the program: signs taken off by patterns."""

import re

NUMBER = "(?:0|[1-9][0-9]{0,6})"
OWNER = "(?:[0-9]|1[0-9])"
SIGNED = "(?:0|-?[1-9][0-9]{0,6})"
STEP = re.compile(
    f"(?:(?:come|farewell|carry|twice|lose|settle) {SIGNED}|turn|send|ask {SIGNED} {SIGNED} {SIGNED})"
)


def own_read(text):
    """The edition; the place, if the text can't be read; None, if what it tells is no edition."""
    at, words, ended = 0, [], False
    for place, pattern in enumerate((NUMBER, f"(?:-|{NUMBER})", *[OWNER] * 12)):
        found = None if ended else re.compile(f"({pattern})( |\\Z)").match(text, at)
        if found is None:
            return place
        words.append(found[1])
        at, ended = found.end(), found[2] == ""
    if not ended:
        return 14
    number, make = int(words[0]), None if words[1] == "-" else int(words[1])
    if number < 1 or max(number, make or 0) > 10 ** 6:
        return None
    return (number, make, tuple(int(word) for word in words[2:]))


def own_read_steps(text):
    """The steps; the place of the first row that is no step."""
    if text == "":
        return []
    steps = []
    for place, row in enumerate(re.split("\n", text)):
        if not STEP.fullmatch(row):
            return place
        word, *numbers = re.findall("[^ ]+", row)
        steps.append((word, *map(int, numbers)))
    return steps
