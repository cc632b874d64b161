"""Stories: the forms of cells, and the conditions, along the records of an archive."""

from leastlog.carrying import forms_behind
from leastlog.failures import UnknownRun
from leastlog.formruns import FormRun, symbol_of
from leastlog.forms import Form
from leastlog.kinds import is_whole
from leastlog.moduletexts import read_module
from leastlog.regions import Region


class Story:
    """The programs, the forms of the cells and the conditions along some records. Stories never change."""

    def __init__(self, program, cells):
        self._records = []
        # Before each run, and at last behind all of them.
        self._programs = [program]
        self._cells = [{cell: Form(cells[cell]) for cell in cells}]
        self._conditions = []
        # How many stops each run has.
        self._stops = []
        # Made when it is first asked for.
        self._region = None

    def told_on(self, records):
        """The story with these records behind its own."""
        other = Story(self._programs[0], {})
        other._records = list(self._records)
        other._programs = list(self._programs)
        other._cells = list(self._cells)
        other._conditions = list(self._conditions)
        other._stops = list(self._stops)
        for record in records:
            other._tell(record)
        return other

    def _tell(self, record):
        self._records.append(record)
        if record[0] == "module":
            self._replace(read_module(record[1]))
            return
        run = self.form_run(len(self._records) - 1)
        run.finish()
        self._conditions.extend(run.conditions())
        self._stops.append(run.stop_count)
        self._programs.append(self._programs[-1])
        self._cells.append({**self._cells[-1], **run.writes()})

    def _replace(self, module):
        before = self._programs[-1]
        later = before.with_module(module)
        forms = forms_behind(before, later, module)
        self._stops.append(0)
        self._programs.append(later)
        self._cells.append({cell: forms[cell].replaced(self._cells[-1]) for cell in forms})

    def record_at(self, run):
        """The record of a run."""
        if not is_whole(run) or not 0 <= run < len(self._records):
            raise UnknownRun(run)
        return self._records[run]

    def stop_count_of(self, run):
        """The number of stops of a run."""
        self.record_at(run)
        return self._stops[run]

    def form_run(self, run):
        """A run by its record, with its symbols, on the forms of the cells before it, at its first stop."""
        _, procedure, controls, path, _, _ = self.record_at(run)
        return FormRun(self._programs[run], procedure, forms_for(run, controls), path, self._cells[run])

    def program_before(self, run):
        """The program before a run, or behind all."""
        self._check_place(run)
        return self._programs[run]

    def forms_before(self, run):
        """The forms of the cells before a run, or behind all."""
        self._check_place(run)
        return dict(self._cells[run])

    def forms_now(self):
        """The forms of the cells behind all runs."""
        return dict(self._cells[-1])

    def symbols(self):
        """The sorted list of the symbols of all runs."""
        return sorted([symbol for run, record in enumerate(self._records) for symbol in symbols_in(run, record)])

    def region(self):
        """The region of the conditions of all runs."""
        if self._region is None:
            self._region = Region(self._conditions)
        return self._region

    def _check_place(self, run):
        if not is_whole(run) or not 0 <= run <= len(self._records):
            raise UnknownRun(run)


def symbols_in(run, record):
    """The list of the symbols of the amounts that were passed to a run."""
    controls = record[2] if record[0] == "run" else ()
    return [symbol_of(run, position) for position, control in enumerate(controls) if control is None]


def forms_for(run, controls):
    """The arguments of a run with its symbols in place of the amounts."""
    return [Form.symbol(symbol_of(run, position)) if control is None else control
            for position, control in enumerate(controls)]
