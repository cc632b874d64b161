"""Replacements of modules: the store behind them, and whether a run under way goes on by the new program."""

from leastlog.amounts import Amount
from leastlog.carrying import forms_behind
from leastlog.errors import InvalidStop
from leastlog.failures import UnknownProcedure
from leastlog.formruns import FormRun, symbol_of
from leastlog.forms import Form
from leastlog.kinds import is_whole
from leastlog.regions import Region
from leastlog.runs import Run, check_arguments, check_cells, check_exported, store_of
from leastlog.systems import Telling, direction

CARRIED = "carried"


def replaced_cells(program, module, cells=None):
    """The store behind the replacement of a module, a dict sorted by cells."""
    later = program.with_module(module)
    check_cells(program, cells)
    store = store_of(program, cells, Amount(0))
    forms = forms_behind(program, later, module)
    return {cell: forms[cell].value_at(store) for cell in forms}


def judge(program, module, procedure, arguments, stop, cells=None):
    """The Verdict on a run that began on these cells and stands at this stop, None if it is over."""
    later = program.with_module(module)
    check_same_export(program, later, procedure)
    check_arguments(program, procedure, arguments)
    check_cells(program, cells)
    if stop is None:
        return Verdict("stop", None, [], [])
    run = Run(program, procedure, arguments, cells)
    if not is_whole(stop) or stop < 0 or not comes_to_number(run, stop):
        raise InvalidStop(stop)
    twin = Run(later, procedure, arguments, replaced_cells(program, module, cells))
    symbols = symbols_for(arguments)
    on_forms = form_run_at(run, program, procedure, symbols, {cell: Form.symbol(cell) for cell in program.cells()})
    if not comes_to_place(twin, run.place):
        return Verdict("stop", run.place, forms_at(on_forms), [])
    twin_on_forms = form_run_at(twin, later, procedure, symbols, forms_behind(program, later, module))
    return verdict_on(on_forms, twin_on_forms)


def verdict_on(run, twin):
    """The Verdict on a run on forms that has this twin."""
    held, needed = forms_at(run), forms_at(twin)
    apart = first_difference(run.conditions(), twin.conditions())
    if apart is not None:
        return Verdict("test", run.place, held, needed, what=apart)
    flat = Region(run.conditions()).flat()
    forms = [form for _, form in held]
    telling = Telling([*forms, *flat])
    rows = []
    for what, form in needed:
        told = telling.weights_of(form)
        if told is None:
            return Verdict("told", run.place, held, needed, what=what, way=direction(form, forms, flat))
        constant, weights = told
        rows.append((constant, weights[:len(forms)], weights[len(forms):]))
    return Verdict(CARRIED, run.place, held, needed, rows=rows)


class Verdict:
    """Whether a run under way is carried on by a replacement, and why, or why not."""

    def __init__(self, word, place, held, needed, *, what=None, rows=(), way=None):
        self._word = word
        self._place = place
        self._held = held
        self._needed = needed
        self._what = what
        self._rows = rows
        self._way = way

    @property
    def word(self):
        """The word for carried on, or the reason."""
        return self._word

    @property
    def place(self):
        """The place of the stop, None if the run is over."""
        return self._place

    @property
    def what(self):
        """The number of the test or the needed thing that is the reason, None for others."""
        return self._what

    def held(self):
        """The list of tuples (what, form) of what the run has at its stop."""
        return list(self._held)

    def needed(self):
        """The list of tuples (what, form) of what its twin has."""
        return list(self._needed)

    def told_rows(self):
        """For each needed form the constant and the weights by which it is told, if the run is carried on."""
        return [(constant, list(weights), list(flat_weights)) for constant, weights, flat_weights in self._rows]

    def direction(self):
        """A direction along the held forms on the flat along which the needed form moves, None if there is none."""
        return None if self._way is None else dict(self._way)


def check_same_export(program, later, procedure):
    """Raises UnknownProcedure unless both programs export a procedure with the same sorts of parameters."""
    check_exported(program, procedure)
    check_exported(later, procedure)
    if not has_same_sorts(program, later, procedure):
        raise UnknownProcedure(procedure)


def has_same_sorts(program, later, procedure):
    """Whether a procedure has the same sorts of parameters in both programs."""
    sorts = [[sort for _, sort in part.procedure_at(procedure)[3]] for part in (program, later)]
    return sorts[0] == sorts[1]


def comes_to_number(run, stop):
    """Steps to the stop with this number; returns whether there is one."""
    while not run.is_over and run.stop_count <= stop:
        run.step()
    return not run.is_over


def comes_to_place(run, place):
    """Steps to the stop with this place; returns whether there is one."""
    while not run.is_over and run.place != place:
        run.step()
    return not run.is_over


def symbols_for(arguments, run=0):
    """The arguments of the run with this number with their symbols in place of amounts."""
    return [Form.symbol(symbol_of(run, position)) if isinstance(argument, Amount) else argument
            for position, argument in enumerate(arguments)]


def form_run_at(run, program, procedure, arguments, cells):
    """The run on forms that stands where a plain run stands."""
    found = FormRun(program, procedure, arguments, run.path(), cells)
    comes_to_number(found, run.stop_count - 1)
    return found


def forms_at(run):
    """The list of tuples (what, form) of the amounts among the variables at a stop, then of the writes."""
    shown = [(("variable", frame, name), variables[name]) for frame, variables in enumerate(run.variables())
             for name in variables]
    amounts = [(what, value) for what, value in shown if isinstance(value, Form)]
    return [*amounts, *[(("write", cell), form) for cell, form in run.writes().items()]]


def first_difference(conditions, others):
    """The position of the first condition that is another one or is lacking; None if all are the same."""
    for position, (condition, other) in enumerate(zip(conditions, others)):
        if condition != other:
            return position
    return None if len(conditions) == len(others) else min(len(conditions), len(others))
