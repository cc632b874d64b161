"""Runs of codes, which have the traces of plain runs and of runs on forms."""

from leastlog.amounts import Amount
from leastlog.arithmetic import FormArithmetic, PlainArithmetic
from leastlog.codemachine import CodeMachine
from leastlog.formruns import check_path
from leastlog.kinds import alike
from leastlog.runs import check_arguments, check_cells, check_exported, store_of


def run_code(program, book, procedure, arguments, cells=None, *, path=None):
    """The trace of the run of an exported procedure by the codes of a book; with a path, of the run on forms."""
    on_forms = path is not None
    check_exported(program, procedure)
    check_arguments(program, procedure, arguments, on_forms)
    if on_forms:
        check_path(path)
    check_cells(program, cells, on_forms)
    arithmetic = FormArithmetic(path) if on_forms else PlainArithmetic()
    store = store_of(program, cells, arithmetic.made(Amount(0)))
    machine = CodeMachine(book, store, arithmetic)
    machine.start(procedure, arguments)
    while not machine.has_ended():
        machine.go_on()
    if on_forms:
        arithmetic.check_spent()
    return machine.events()


def parting(trace, other):
    """The position of the first event that differs; None if the traces are equal."""
    for position, (event, by) in enumerate(zip(trace, other)):
        if not alike(event, by):
            return position
    return None if len(trace) == len(other) else min(len(trace), len(other))
