"""The other errors: something is not there, not allowed now, or cannot be computed.

The attributes of each error are the parameters of its constructor.
"""


class UnknownSymbol(LookupError):
    """A point lacks a symbol."""

    def __init__(self, name):
        self.name = name


class UnknownProcedure(LookupError):
    """There is no such procedure."""

    def __init__(self, name):
        self.name = name


class UnknownModule(LookupError):
    """There is no such module."""

    def __init__(self, name):
        self.name = name


class MissingModule(LookupError):
    """A module that another one imports is not there."""

    def __init__(self, name, importer):
        self.name = name
        self.importer = importer


class UnknownValue(LookupError):
    """There is no such value."""

    def __init__(self, value):
        self.value = value


class UnknownPath(LookupError):
    """There is no such row or list of a code."""

    def __init__(self, where):
        self.where = where


class UnknownPass(LookupError):
    """There is no such pass."""

    def __init__(self, value):
        self.value = value


class UnknownStop(LookupError):
    """There is no such stop."""

    def __init__(self, stop_number):
        self.stop_number = stop_number


class UnknownLane(LookupError):
    """There is no such lane."""

    def __init__(self, value):
        self.value = value


class UnknownRun(LookupError):
    """There is no such run."""

    def __init__(self, value):
        self.value = value


class UnknownEntry(LookupError):
    """There is no such entry to be named."""

    def __init__(self, value):
        self.value = value


class UnknownKept(LookupError):
    """There is no such kept number."""

    def __init__(self, value):
        self.value = value


class UnknownKey(LookupError):
    """There is no run with this key."""

    def __init__(self, value):
        self.value = value


class UnknownVariable(LookupError):
    """There is no such variable in this frame."""

    def __init__(self, frame, name):
        self.frame = frame
        self.name = name


class NoSpot(LookupError):
    """There is no spot in this direction."""


class DuplicateModule(RuntimeError):
    """Two modules have one name."""

    def __init__(self, name):
        self.name = name


class ImportRing(RuntimeError):
    """Modules import each other in a ring."""

    def __init__(self, names):
        self.names = names


class IsLost(RuntimeError):
    """A value is lost at a stop."""

    def __init__(self, value, stop_number):
        self.value = value
        self.stop_number = stop_number


class NotHeld(RuntimeError):
    """A value is not held at a stop."""

    def __init__(self, value, stop_number):
        self.value = value
        self.stop_number = stop_number


class Insufficient(RuntimeError):
    """Keeps lose a value that a stop asks for."""

    def __init__(self, value, stop_number):
        self.value = value
        self.stop_number = stop_number


class LaneBusy(RuntimeError):
    """A lane has something under way."""

    def __init__(self, lane_number):
        self.lane_number = lane_number


class AttemptOver(RuntimeError):
    """An attempt is over."""


class Stale(RuntimeError):
    """An attempt has read a version that is not the newest any more."""

    def __init__(self, cell):
        self.cell = cell


class NotNamed(RuntimeError):
    """The entry of a run does not name the other run."""

    def __init__(self, number, other):
        self.number = number
        self.other = other


class NotRecovered(RuntimeError):
    """A disk has text behind the entries that were found."""

    def __init__(self, lane_number):
        self.lane_number = lane_number


class NoRun(RuntimeError):
    """A lane has no run under way."""

    def __init__(self, lane_number):
        self.lane_number = lane_number


class NotOver(RuntimeError):
    """The run of a lane is not over."""

    def __init__(self, lane_number):
        self.lane_number = lane_number


class InUse(RuntimeError):
    """The run of a lane needs what a new version lacks."""

    def __init__(self, lane_number):
        self.lane_number = lane_number


class NotMine(RuntimeError):
    """An engine does not go on from the cut of an archive."""


class NoArchive(RuntimeError):
    """There is no whole text of an archive."""


class NotAmount(RuntimeError):
    """A variable is no amount."""

    def __init__(self, name):
        self.name = name


class NotArchived(RuntimeError):
    """A run is not in the archive."""

    def __init__(self, key):
        self.key = key


class NotStarted(RuntimeError):
    """A console has not been started."""


class AlreadyStarted(RuntimeError):
    """A console has been started before."""


class CommandFailed(RuntimeError):
    """A command of a list raised an error."""

    def __init__(self, position, answers):
        self.position = position
        self.answers = answers


class ZeroDivisor(ArithmeticError):
    """A divisor is 0."""


class Impossible(ArithmeticError):
    """A region is not possible, or its core is empty."""
