"""Runs on forms: forms in place of amounts, and a path that tells the truths of the tests."""

from leastlog.arithmetic import FormArithmetic
from leastlog.errors import InvalidPath, Over
from leastlog.forms import Form
from leastlog.kinds import is_list
from leastlog.machine import Machine
from leastlog.runs import Run, check_arguments, check_cells, check_exported, store_of


def symbol_of(run, position):
    """The symbol of the argument at a position of a run."""
    return f"{run}.{position}"


class FormRun(Run):
    """The run of an exported procedure on forms, which stands at one of its stops or is over."""

    def __init__(self, program, procedure, arguments, path, cells=None):
        check_exported(program, procedure)
        check_arguments(program, procedure, arguments, True)
        check_path(path)
        check_cells(program, cells, True)
        self._program = program
        self._procedure = procedure
        self._arguments = list(arguments)
        self._path = list(path)
        self._cells = store_of(program, cells, Form(0))
        self._machine = Machine(program, self._cells, FormArithmetic(path))
        self._machine.start(procedure, self._arguments)

    @classmethod
    def traced(cls, program, procedure, arguments, path, cells=None):
        """The trace of the whole run, which takes the whole path."""
        run = cls(program, procedure, arguments, path, cells)
        run.finish()
        run.check_spent()
        return run.trace()

    @property
    def place(self):
        """The frames at which the run stands; None if it is over."""
        return None if self._machine.result() is not None else self._machine.standing()

    @property
    def is_over(self):
        """Whether the run is over."""
        return self._machine.result() is not None

    @property
    def outcome(self):
        """What the run gave, or how it failed; None if it is not over."""
        return self._machine.result()

    @property
    def stop_count(self):
        """The number of stops to which the run has come."""
        return self._machine.stops()

    def variables(self):
        """One dict of variables for each frame of the place."""
        return self._machine.shown()

    def trace(self):
        """The list of the events so far."""
        return self._machine.events()

    def path(self):
        """The list of the truths of the tests so far."""
        return self._machine.arithmetic().truths()

    def conditions(self):
        """The list of the conditions of the tests so far."""
        return self._machine.arithmetic().conditions()

    def reads(self):
        """The sorted list of the cells read from the store so far, code cells included."""
        return self._machine.seen()

    def writes(self):
        """The sorted dict of the cells written so far."""
        return self._machine.written()

    def step(self):
        """Goes on to the next stop, or to the end; stays where it is if the path does not fit."""
        if self.is_over:
            raise Over("the run is over")
        machine = self._machine.clone()
        machine.advance()
        self._machine = machine

    def finish(self):
        """Goes on to the end; returns the outcome."""
        while not self.is_over:
            self.step()
        return self.outcome

    def walk(self):
        """Goes on to the end and yields the place and the variables of each stop."""
        while not self.is_over:
            yield self.place, self.variables()
            self.step()

    def clone(self):
        """An independent run at the same place."""
        other = FormRun(self._program, self._procedure, self._arguments, self._path, self._cells)
        other._machine = self._machine.clone()
        return other

    def check_spent(self):
        """Raises InvalidPath if the path has more truths than there were tests so far."""
        self._machine.arithmetic().check_spent()


def check_path(path):
    """Raises InvalidPath for any value that is no list of truths."""
    if not is_list(path):
        raise InvalidPath(None)
    for position, truth in enumerate(path):
        if not isinstance(truth, bool):
            raise InvalidPath(position)
