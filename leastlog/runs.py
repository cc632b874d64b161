"""Runs: procedures of a program that are executed on the cells of a store."""

from leastlog.amounts import Amount
from leastlog.arithmetic import PlainArithmetic
from leastlog.errors import InvalidArguments, InvalidCells, Over
from leastlog.failures import UnknownProcedure
from leastlog.forms import Form
from leastlog.kinds import is_list, is_whole
from leastlog.machine import Machine


class Run:
    """The run of an exported procedure, which stands at one of its stops or is over."""

    def __init__(self, program, procedure, arguments, cells=None):
        check_exported(program, procedure)
        check_arguments(program, procedure, arguments)
        check_cells(program, cells)
        self._program = program
        self._procedure = procedure
        self._arguments = list(arguments)
        self._cells = store_of(program, cells, Amount(0))
        self._machine = Machine(program, self._cells, PlainArithmetic())
        self._machine.start(procedure, self._arguments)

    @classmethod
    def traced(cls, program, procedure, arguments, cells=None):
        """The trace of the whole run."""
        run = cls(program, procedure, arguments, cells)
        run.finish()
        return run.trace()

    @property
    def place(self):
        """The frames at which the run stands; None if it is over."""
        return None if self._machine.result() is not None else self._machine.standing()

    @property
    def is_over(self):
        """Whether the run is over."""
        return self._machine.result() is not None

    @property
    def outcome(self):
        """What the run gave, or how it failed; None if it is not over."""
        return self._machine.result()

    @property
    def stop_count(self):
        """The number of stops to which the run has come."""
        return self._machine.stops()

    def variables(self):
        """One dict of variables for each frame of the place."""
        return self._machine.shown()

    def trace(self):
        """The list of the events so far."""
        return self._machine.events()

    def path(self):
        """The list of the truths of the tests so far."""
        return self._machine.arithmetic().truths()

    def reads(self):
        """The sorted list of the cells read from the store so far, code cells included."""
        return self._machine.seen()

    def writes(self):
        """The sorted dict of the cells written so far."""
        return self._machine.written()

    def step(self):
        """Goes on to the next stop, or to the end."""
        if self.is_over:
            raise Over("the run is over")
        self._machine.advance()

    def finish(self):
        """Goes on to the end; returns the outcome."""
        while not self.is_over:
            self.step()
        return self.outcome

    def walk(self):
        """Goes on to the end and yields the place and the variables of each stop."""
        while not self.is_over:
            yield self.place, self.variables()
            self.step()

    def clone(self):
        """An independent run at the same place."""
        other = Run(self._program, self._procedure, self._arguments, self._cells)
        other._machine = self._machine.clone()
        return other


def check_exported(program, text):
    """Raises UnknownProcedure for any value that is not the text of an exported procedure."""
    if not program.procedure_at(text)[1]:
        raise UnknownProcedure(text)


def check_arguments(program, text, arguments, on_forms=False):
    """Raises InvalidArguments for any value that is no list of arguments of the procedure."""
    parameters = program.procedure_at(text)[3]
    if not is_list(arguments) or len(arguments) != len(parameters):
        raise InvalidArguments(None)
    for position, (_, sort) in enumerate(parameters):
        if not has_sort(arguments[position], sort, on_forms):
            raise InvalidArguments(position)


def has_sort(value, sort, on_forms):
    """Whether any value is of this sort, in a plain run or in one on forms."""
    if sort == "amount":
        return is_run_amount(value, on_forms)
    return is_whole(value) if sort == "count" else isinstance(value, bool)


def is_run_amount(value, on_forms):
    """Whether any value is an amount in a plain run, or in one on forms."""
    return isinstance(value, Form) if on_forms else isinstance(value, Amount)


def check_cells(program, cells, on_forms=False):
    """Raises InvalidCells for any value that is neither None nor a dict from cell texts to amounts of the run."""
    if cells is None:
        return
    if not isinstance(cells, dict):
        raise InvalidCells(None)
    known = {text: True for text in program.cells()}
    right = [key for key in cells if isinstance(key, str) and key in known and is_run_amount(cells[key], on_forms)]
    if len(right) < len(cells):
        wrong = [key for key in cells if isinstance(key, str) and key not in right]
        raise InvalidCells(min(wrong, default=None))


def store_of(program, cells, zero):
    """A dict from all cells of the program to their amounts, zero for those that are not given."""
    given = {} if cells is None else cells
    return {text: given.get(text, zero) for text in program.cells()}
