"""Archives: what is kept of runs whose journal entries are let go, and what is told from it."""

from leastlog.amounts import Amount
from leastlog.failures import NotMine, UnknownKept, UnknownSymbol
from leastlog.formruns import symbol_of
from leastlog.forms import Form
from leastlog.kinds import alike, is_whole
from leastlog.moduletexts import read_module
from leastlog.runs import Run, check_cells, store_of
from leastlog.stories import Story
from leastlog.systems import combination, lightest_base, solution

# What it costs to keep the amount of a cell at a cut.
CELL_COST = 1


class Archive:
    """The cells at a cut, the records of the runs ahead of it, and the kept numbers, tuples (what, amount, cost)."""

    def __init__(self, program, cells=None):
        check_cells(program, cells)
        store = store_of(program, cells, Amount(0))
        self._first_program = program
        self._first_cells = store
        self._program = program
        self._cells = store
        self._records = []
        # For each cut the number of runs ahead of it.
        self._cuts = [0]
        self._kept = []
        self._taken = ()
        # The forms along the records, as soon as they are needed.
        self._story = None

    @property
    def cut_number(self):
        """The number of the cut."""
        return len(self._cuts) - 1

    @property
    def program(self):
        """The program at the cut."""
        return self._program

    @property
    def taken(self):
        """The cut of the journal of the engine behind the last letting go; () at cut 0."""
        return self._taken

    @classmethod
    def of_parts(cls, parts):
        """The archive that has these parts."""
        program, cells, cuts, records, cells_now, kept, taken = parts
        archive = cls(program, cells)
        archive._cuts = list(cuts)
        archive._records = list(records)
        archive._cells = dict(cells_now)
        archive._kept = list(kept)
        archive._taken = taken
        for record in records:
            if record[0] == "module":
                archive._program = archive._program.with_module(read_module(record[1]))
        return archive

    def parts(self):
        """All that makes archives equal, from which the same archive can be made."""
        return (self._first_program, dict(self._first_cells), list(self._cuts), list(self._records),
                dict(self._cells), list(self._kept), self._taken)

    def clone(self):
        """An independent archive at the same cut."""
        other = Archive.of_parts(self.parts())
        other._story = self._story
        return other

    def let_go(self, engine):
        """The ended runs of an engine come into the archive; returns their number."""
        first = engine.released
        if engine.program_at(first) != self._program or engine.cells_at(first) != self._cells:
            raise NotMine("the runs of the engine do not begin at the cut of the archive")
        records = [engine.record_of(number) for number in engine.run_numbers()]
        engine.release()
        self._keep_numbers(records, engine.cells())
        self._program = engine.program
        self._taken = tuple(engine.journal().cut())
        return len(records)

    def _keep_numbers(self, records, cells):
        """Takes the records of ended runs, behind which there are these cells, and chooses the kept numbers anew."""
        candidates = [*self._kept, *self._cell_candidates(), *input_candidates(len(self._records), records)]
        told = [archived(record) for record in records]
        self._story = self._found_story().told_on(told)
        self._records = [*self._records, *told]
        forms = [self._form_of(what) for what, _, _ in candidates]
        flat = [*self._region_flat(), *list(self._story.forms_now().values())]
        chosen = lightest_base(forms, [cost for _, _, cost in candidates], flat)
        self._kept = [candidates[index] for index in chosen]
        self._cuts = [*self._cuts, len(self._records)]
        self._cells = cells

    def _cell_candidates(self):
        return [(("cell", self.cut_number, cell), self._cells[cell], CELL_COST) for cell in self._cells]

    def records(self):
        """The list of the records."""
        return list(self._records)

    def cells(self):
        """The cells at the cut, a sorted dict."""
        return dict(self._cells)

    def kept(self):
        """The list of the kept numbers, tuples (what, amount)."""
        return [(what, amount) for what, amount, _ in self._kept]

    def costs(self):
        """The list of the costs of the kept numbers."""
        return [cost for _, _, cost in self._kept]

    def symbols(self):
        """The sorted list of the symbols of the amounts that were passed."""
        return self._found_story().symbols()

    def region(self):
        """The Region of the conditions of all runs."""
        return self._found_story().region()

    def cell_forms(self):
        """The forms of the cells, a sorted dict."""
        return self._found_story().forms_now()

    def kept_forms(self):
        """The list of the forms of the kept numbers."""
        return [self._form_of(what) for what, _, _ in self._kept]

    def point(self):
        """The amounts that were passed, by their symbols: the only point by which all amounts that are kept are so."""
        cells = self.cell_forms()
        known = [cells[cell] - self._cells[cell] for cell in cells]
        known.extend([self._form_of(what) - amount for what, amount, _ in self._kept])
        return solution([*self._region_flat(), *known])

    def told_by(self, form):
        """The constant, and the weights of the kept numbers, of the cells and of the flat, by which a form is told."""
        symbols = {symbol: True for symbol in self.symbols()}
        for symbol in form.symbols():
            if symbol not in symbols:
                raise UnknownSymbol(symbol)
        kept, cells, flat = self.kept_forms(), list(self.cell_forms().values()), self._region_flat()
        constant, weights, flat_weights = combination(form, [*kept, *cells], flat)
        return constant, weights[:len(kept)], weights[len(kept):], flat_weights

    def arguments_of(self, run):
        """The list of the arguments of a run, told anew."""
        record = self._found_story().record_at(run)
        return [] if record[0] == "module" else arguments_at(self.point(), run, record)

    def cells_before(self, run):
        """The cells before a run, or behind all, told anew."""
        forms = self._found_story().forms_before(run)
        point = self.point()
        return {cell: forms[cell].value_at(point) for cell in forms}

    def program_before(self, run):
        """The program before a run, or behind all."""
        return self._found_story().program_before(run)

    def trace_of(self, run):
        """The trace of a run, told anew."""
        record = self._found_story().record_at(run)
        if record[0] == "module":
            return []
        forms, point = self._found_story().forms_before(run), self.point()
        cells = {cell: forms[cell].value_at(point) for cell in forms}
        return Run.traced(self.program_before(run), record[1], arguments_at(point, run, record), cells)

    def stop_count_of(self, run):
        """The number of stops of a run."""
        return self._found_story().stop_count_of(run)

    def form_trace_of(self, run):
        """The trace of a run on forms."""
        story = self._found_story()
        if story.record_at(run)[0] == "module":
            return []
        found = story.form_run(run)
        found.finish()
        return found.trace()

    def histories(self, index):
        """Two histories by the same paths that differ in a kept number, but not in the cells and the others."""
        if not is_whole(index) or not 0 <= index < len(self._kept):
            raise UnknownKept(index)
        forms = self.kept_forms()
        others = [*forms[:index], *forms[index + 1:], *list(self.cell_forms().values())]
        one, other = self.region().two_points(others, forms[index])
        return self._history_at(one), self._history_at(other)

    def _history_at(self, point):
        """For each run its arguments at a point."""
        return [[] if record[0] == "module" else arguments_at(point, run, record)
                for run, record in enumerate(self._records)]

    def _region_flat(self):
        return self.region().flat()

    def _form_of(self, what):
        """The form of a kept number."""
        kind, number, part = what
        if kind == "input":
            return Form.symbol(symbol_of(number, part))
        forms = self._found_story().forms_before(self._cuts[number])
        return forms[part]

    def _found_story(self):
        if self._story is None:
            self._story = Story(self._first_program, self._first_cells).told_on(self._records)
        return self._story

    def __eq__(self, other):
        return isinstance(other, Archive) and alike(self.parts(), other.parts())

    def __len__(self):
        return len(self._records)


def archived(record):
    """The record of an archive for one of an engine: the amounts that were passed do not stand in it."""
    if record[0] == "module":
        return "module", str(record[1])
    word, procedure, arguments, weight, path, ended = record
    controls = tuple([None if isinstance(argument, Amount) else argument for argument in arguments])
    return word, procedure, controls, path, ended, weight


def input_candidates(begun, records):
    """The candidates that are amounts passed to new runs, of which the first one has this number."""
    runs = [(begun + index, record) for index, record in enumerate(records) if record[0] == "run"]
    return [(("input", run, position), argument, record[3]) for run, record in runs
            for position, argument in enumerate(record[2]) if isinstance(argument, Amount)]


def arguments_at(point, run, record):
    """The arguments of a run at a point of the symbols."""
    return [point[symbol_of(run, position)] if control is None else control
            for position, control in enumerate(record[2])]
