"""The errors of the package."""


class PointsError(ValueError):
    """A value that is not valid was passed."""


class InvalidNumber(PointsError):
    """The value is not a number that is valid here."""

    def __init__(self, value):
        self.value = value


class InvalidName(PointsError):
    """The value is not a NAME."""

    def __init__(self, value):
        self.value = value


class InvalidPoints(PointsError):
    """The points or steps of a table are wrong: at the position, or as a whole (None)."""

    def __init__(self, position):
        self.position = position


class InvalidPlace(PointsError):
    """The value is not a place from 1 to 5."""

    def __init__(self, value):
        self.value = value


class InvalidTable(PointsError):
    """The value is not a table that is valid here."""

    def __init__(self, value):
        self.value = value


class InvalidSayings(PointsError):
    """The saying at the position is none."""

    def __init__(self, position):
        self.position = position


class InvalidFamily(PointsError):
    """The value is not a family that is valid here."""

    def __init__(self, value):
        self.value = value


class InvalidRow(PointsError):
    """The value is not a row."""

    def __init__(self, value):
        self.value = value


class InvalidRiders(PointsError):
    """The riders are wrong: at the position, or as a whole (None)."""

    def __init__(self, position):
        self.position = position


class InvalidRaces(PointsError):
    """The races are wrong: at the position, or as a whole (None)."""

    def __init__(self, position):
        self.position = position


class InvalidRace(PointsError):
    """The value is not a race of these riders."""

    def __init__(self, value):
        self.value = value


class InvalidSeason(PointsError):
    """The value is not a season, or not a diary where one is due."""

    def __init__(self, value):
        self.value = value


class InvalidRows(PointsError):
    """The rows of a chart are wrong: of the rider, or as a whole (None)."""

    def __init__(self, name):
        self.name = name


class InvalidChart(PointsError):
    """The value is not a chart."""

    def __init__(self, value):
        self.value = value


class InvalidTeams(PointsError):
    """The teams are wrong: the one with the name, or as a whole (None)."""

    def __init__(self, name):
        self.name = name


class InvalidEnd(PointsError):
    """The value is not an end that is valid here."""

    def __init__(self, value):
        self.value = value


class InvalidOrder(PointsError):
    """The value is not an order of the chart."""

    def __init__(self, value):
        self.value = value


class InvalidPoint(PointsError):
    """The value is not a point in the plane."""

    def __init__(self, value):
        self.value = value


class InvalidWishes(PointsError):
    """The wishes are wrong: at the position, or as a whole (None)."""

    def __init__(self, position):
        self.position = position


class InvalidText(PointsError):
    """The text is wrong: in the line, or it is no string (None)."""

    def __init__(self, line):
        self.line = line


class InvalidClaim(PointsError):
    """The value is not a claim."""

    def __init__(self, value):
        self.value = value


class InvalidCommand(PointsError):
    """The value is not a command."""

    def __init__(self, value):
        self.value = value


class MissingError(LookupError):
    """Something was asked for that is not there."""


class UnknownRider(MissingError):
    """The value is not one of the riders."""

    def __init__(self, value):
        self.value = value


class NoRace(MissingError):
    """The value is not the position of a race."""

    def __init__(self, value):
        self.value = value


class NoResult(MissingError):
    """The rider has no place in the race at the position."""

    def __init__(self, rider, position):
        self.rider = rider
        self.position = position


class UnknownName(MissingError):
    """The value is not a name of something of this kind."""

    def __init__(self, value):
        self.value = value


class StateError(RuntimeError):
    """What was asked for cannot be done with these values."""


class DividedByZero(StateError):
    """A number was to be divided by 0."""

    def __init__(self):
        pass


class NoTables(StateError):
    """The family would have no table."""

    def __init__(self):
        pass


class OtherRiders(StateError):
    """The two do not have the same riders."""

    def __init__(self, one, other):
        self.one = one
        self.other = other


class LastRider(StateError):
    """The rider is the only one."""

    def __init__(self, value):
        self.value = value


class NoRivals(StateError):
    """The rider has no rivals."""

    def __init__(self, value):
        self.value = value


class DoesNotFit(StateError):
    """The chart does not fit so many races."""

    def __init__(self, many):
        self.many = many


class NameTaken(StateError):
    """The name stands for something already."""

    def __init__(self, name):
        self.name = name


class NothingToUndo(StateError):
    """There is no command that can be taken back."""

    def __init__(self):
        pass


class CommandFailed(StateError):
    """The command at the position failed."""

    def __init__(self, position):
        self.position = position


class LimitError(ArithmeticError):
    """A limit was exceeded."""


class TooMany(LimitError):
    """There is more of what is named than the limit."""

    def __init__(self, what, limit):
        self.what = what
        self.limit = limit
