"""What the program refuses, one class for each kind of refusal."""


class DrainError(ValueError):
    """Any refusal."""


class BadHouse(DrainError):
    """No house, or no list of houses, can be called so."""


class Known(DrainError):
    """The house was told to the board ahead."""


class NoHouse(DrainError):
    """The house isn't there, or said farewell."""


class TooMany(DrainError):
    """There would be a seventh house."""


class LastHouse(DrainError):
    """No house would be left."""


class BadAsker(DrainError):
    """No asker can be called so."""


class BadEdition(DrainError):
    """It is no edition, or these are no owners."""


class BadAsk(DrainError):
    """Nobody can ask for that."""


class Busy(DrainError):
    """An ask is under way."""


class NoLetter(DrainError):
    """No letter lies at that place."""


class BadCount(DrainError):
    """It can't be done so often."""


class BadText(DrainError):
    """The text can't be read; place is where."""

    def __init__(self, place):
        DrainError.__init__(self, f"the text can't be read at place {place}")
        self.place = place
