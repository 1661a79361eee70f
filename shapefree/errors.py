"""The refusals, one class for each."""


class ShapeError(ValueError):
    """Any refusal."""


class BadText(ShapeError):
    """What was read is no such text, by the row whose number is told."""

    def __init__(self, at):
        self.at = at


class Twice(ShapeError):
    """A name stands where the same one stood ahead."""

    def __init__(self, name):
        self.name = name


class NoName(ShapeError):
    """Nothing is called so here."""

    def __init__(self, name):
        self.name = name


class WrongCount(ShapeError):
    """A deed or a def is given too few, too many, or things of the wrong sort."""

    def __init__(self, name):
        self.name = name


class NoWorld(ShapeError):
    """What was looked at is no world of the shape; the word says by what."""

    def __init__(self, word):
        self.word = word


class TooLong(ShapeError):
    """More turns came than were let."""

    def __init__(self, most):
        self.most = most


class TooMany(ShapeError):
    """More parts or rows came than were let."""

    def __init__(self, most):
        self.most = most


class NoStep(ShapeError):
    """No step can be done at the place."""

    def __init__(self):
        pass


class NoRow(ShapeError):
    """The desk was told a row that is none of its rows."""

    def __init__(self):
        pass
