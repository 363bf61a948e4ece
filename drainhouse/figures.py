"""Numbers, as they are written in texts."""

MOST_FIGURES = 7


def is_plain(word):
    """Whether the word is a number from 0 on: one to seven figures, none needless."""
    if not word.isdigit() or len(word) > MOST_FIGURES:
        return False
    return word == "0" or not word.startswith("0")


def is_signed(word):
    """Whether the word is such a number, or one below 0."""
    if word.startswith("-"):
        return word != "-0" and is_plain(word[1:])
    return is_plain(word)
