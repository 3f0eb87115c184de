"""The errors of the package."""


class WallError(ValueError):
    """The base class of all errors of the package."""


class BadYard(WallError):
    """A value that is no yard: index tells the first item that is no wall, None that there are no items to look at."""

    def __init__(self, index):
        WallError.__init__(self, f"no yard, index {index}")
        self.index = index


class BadLot(WallError):
    """A value that is no lot."""


class BadOrder(WallError):
    """A value that is no order."""


class BadRoom(WallError):
    """A value that is no room, or no tuple of rooms."""


class BadWall(WallError):
    """A value that is no number of a wall."""


class BadWalls(WallError):
    """A value that is no tuple of walls."""


class BadTree(WallError):
    """A lot that is no span."""


class BadSides(WallError):
    """A value that is no tuple of a side for each wall."""


class BadNumber(WallError):
    """A value that is not one of the numbers that are allowed."""


class TooMany(WallError):
    """More than there may be: most tells how many that are."""

    def __init__(self, most):
        WallError.__init__(self, f"more than {most}")
        self.most = most


class NotTree(WallError):
    """A yard that is no tree."""


class NotText(WallError):
    """A value that is no string, or one that is too long."""


class InvalidText(WallError):
    """A text of no yard, or of no order: place tells its first wrong sign, its length if it ends too early."""

    def __init__(self, place):
        WallError.__init__(self, f"wrong from place {place} on")
        self.place = place


class CannotSet(WallError):
    """A wall that is set already, or may not be set from where the mason stands."""


class NothingToUndo(WallError):
    """No step that could be taken back."""
