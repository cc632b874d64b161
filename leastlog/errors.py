"""The errors under LeastlogError: a value that was passed is not valid.

The attributes of each error are the parameters of its constructor.
"""


class LeastlogError(ValueError):
    """The base of all errors of this file."""


class InvalidAmount(LeastlogError):
    """A value stands where an amount is required, and is none."""

    def __init__(self, value):
        self.value = value


class InvalidText(LeastlogError):
    """A text is no text of the required kind; the line tells where."""

    def __init__(self, line):
        self.line = line


class InvalidSymbol(LeastlogError):
    """A value stands where a symbol is required, and is none."""

    def __init__(self, value):
        self.value = value


class InvalidTerms(LeastlogError):
    """A value is no dict from symbols to amounts."""

    def __init__(self, value):
        self.value = value


class InvalidPoint(LeastlogError):
    """A value is no point, or no dict of replacements."""

    def __init__(self, value):
        self.value = value


class InvalidForm(LeastlogError):
    """A value stands where a form is required, and is none."""

    def __init__(self, value):
        self.value = value


class InvalidForms(LeastlogError):
    """An element is no form; None if there is no list."""

    def __init__(self, position):
        self.position = position


class InvalidFlat(LeastlogError):
    """An element of a flat is no form; None if there is no list."""

    def __init__(self, position):
        self.position = position


class InvalidCosts(LeastlogError):
    """An element is no cost; None if there is no list of the right length."""

    def __init__(self, position):
        self.position = position


class InvalidCondition(LeastlogError):
    """An element is no condition; None if there is no list."""

    def __init__(self, position):
        self.position = position


class InvalidModule(LeastlogError):
    """A part of a module is not of the required form."""

    def __init__(self, part):
        self.part = part


class Unchecked(LeastlogError):
    """A module of a program has a fault."""

    def __init__(self, module, fault):
        self.module = module
        self.fault = fault


class BadImport(LeastlogError):
    """An importer has a fault with a new version of a module."""

    def __init__(self, importer, fault):
        self.importer = importer
        self.fault = fault


class BadCarry(LeastlogError):
    """A carry is of no free cell, or its expression is not allowed."""

    def __init__(self, position):
        self.position = position


class InvalidArguments(LeastlogError):
    """An argument is not of its sort; None if their number is wrong."""

    def __init__(self, position):
        self.position = position


class InvalidCells(LeastlogError):
    """A key is no cell, or has no amount; None if no string is to blame."""

    def __init__(self, key):
        self.key = key


class InvalidPath(LeastlogError):
    """A truth of a path is lacking, wrong or one too many."""

    def __init__(self, position):
        self.position = position


class Over(LeastlogError):
    """A run is over and does not go on."""


class InvalidStretch(LeastlogError):
    """An element is no row of a stretch; None if there is no list."""

    def __init__(self, position):
        self.position = position


class InvalidOut(LeastlogError):
    """An element of an OUT is no value; None if there is no list."""

    def __init__(self, position):
        self.position = position


class InvalidKeeps(LeastlogError):
    """An element is no keep; None if there is no list."""

    def __init__(self, position):
        self.position = position


class InvalidContents(LeastlogError):
    """The contents lack a slot; None if they are no dict."""

    def __init__(self, slot):
        self.slot = slot


class InvalidCell(LeastlogError):
    """A value stands where a cell is required, and is none."""

    def __init__(self, value):
        self.value = value


class InvalidCount(LeastlogError):
    """A value is no number of lanes."""

    def __init__(self, value):
        self.value = value


class InvalidHistory(LeastlogError):
    """An element is no footprint; None if there is no list."""

    def __init__(self, position):
        self.position = position


class InvalidOrder(LeastlogError):
    """A value is no order of runs."""

    def __init__(self, value):
        self.value = value


class InvalidRecord(LeastlogError):
    """A value is no record."""

    def __init__(self, value):
        self.value = value


class InvalidLength(LeastlogError):
    """A value is no length at which a disk can be found."""

    def __init__(self, value):
        self.value = value


class InvalidCut(LeastlogError):
    """A value is no cut up to which entries can be dropped."""

    def __init__(self, value):
        self.value = value


class InvalidPayload(LeastlogError):
    """A value is no payload, or none can be made from it."""

    def __init__(self, value):
        self.value = value


class InvalidWeight(LeastlogError):
    """A value is no weight of a run."""

    def __init__(self, value):
        self.value = value


class InvalidLanes(LeastlogError):
    """A value is no number of lanes of an engine."""

    def __init__(self, value):
        self.value = value


class InvalidPasses(LeastlogError):
    """An element names no pass; None if there is no list."""

    def __init__(self, position):
        self.position = position


class InvalidStop(LeastlogError):
    """A value is no stop of a run."""

    def __init__(self, value):
        self.value = value


class NotDurable(LeastlogError):
    """A run is not durable yet."""

    def __init__(self, number):
        self.number = number


class InvalidCommand(LeastlogError):
    """A value is no command, or no list of commands."""

    def __init__(self, value):
        self.value = value
