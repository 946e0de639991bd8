"""The errors of the program, each with the value that it is about."""


class FloorError(ValueError):
    """What all errors of the program are."""

    def __init__(self, value):
        ValueError.__init__(self, value)
        self.value = value


class InvalidKind(FloorError):
    """A kind that is not 2, 3 or 5."""


class InvalidNumber(FloorError):
    """What is no number, or no integer, where one is asked for."""


class InvalidPoint(FloorError):
    """What is no point."""


class InvalidPlace(FloorError):
    """What is no place."""


class InvalidPolygon(FloorError):
    """What is no polygon of the kind."""


class InvalidFloor(FloorError):
    """What is no floor."""


class InvalidRadius(FloorError):
    """A radius or a count that is no integer from 0 on."""


class InvalidBox(FloorError):
    """What is no box."""


class InvalidPatch(FloorError):
    """What is no patch to the radius."""


class InvalidPair(FloorError):
    """Things that do not go together."""


class NoPatch(FloorError):
    """A patch that does not come."""


class NotInFloor(FloorError):
    """A place that is none of the floor."""


class DividedByZero(FloorError):
    """A number that is to be divided by 0."""


class InvalidMatrix(FloorError):
    """What is no matrix."""


class InvalidUnit(FloorError):
    """What is no unit of the sort that is asked for."""


class InvalidRule(FloorError):
    """What has not the form of a rule."""


class InvalidRow(FloorError):
    """What is no row."""


class InvalidMember(FloorError):
    """What is no member of the row."""


class InvalidWord(FloorError):
    """What is no word of the row."""


class InvalidName(FloorError):
    """What can not be a name."""


class NoWord(FloorError):
    """A word that does not come."""


class NotWithin(FloorError):
    """A row that does not lie, or grow, within itself."""


class UnknownName(FloorError):
    """A name of nothing."""


class WrongKind(FloorError):
    """A name of a row where a floor is asked for, or the other way."""


class NothingToUndo(FloorError):
    """An undoing with nothing to take back."""


class Unreadable(FloorError):
    """A text that can not be read, by the number of its line."""


class Unorderly(FloorError):
    """A text that is no order."""


class InvalidRegion(FloorError):
    """What is no region."""


class InvalidSaying(FloorError):
    """What is no saying."""


class NotTold(FloorError):
    """A radius to which one floor does not tell another one."""
