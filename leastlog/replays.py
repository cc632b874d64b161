"""Replays of histories: what the runs of an archive show if other amounts were passed to them."""

from leastlog.moduletexts import read_module
from leastlog.replacing import replaced_cells
from leastlog.runs import Run
from leastlog.traces import stops_in


def showings_of_history(archive, history):
    """For each run of an archive the list of its stops, tuples (place, variables), in a history."""
    cells = archive.cells_before(0)
    found = []
    for number, record in enumerate(archive.records()):
        program = archive.program_before(number)
        if record[0] == "module":
            found.append([])
            cells = replaced_cells(program, read_module(record[1]), cells)
        else:
            run = Run(program, record[1], history[number], cells)
            run.finish()
            found.append(stops_in(run.trace()))
            cells = {**cells, **run.writes()}
    return found


def first_parting(showings, others):
    """The run, stop, frame and name of the first variable in which two lists of showings differ, or None."""
    for run, showing in enumerate(showings):
        for stop, (_, variables) in enumerate(showing):
            for frame, shown in enumerate(variables):
                for name, value in shown.items():
                    if value != others[run][stop][1][frame][name]:
                        return run, stop, frame, name
    return None
