"""Debuggers: every variable at every stop of every run of an engine and of an archive.

A SHOWING is the list of the stops of a run, tuples (place, variables).
"""

from leastlog.failures import NoSpot, NotAmount, NotArchived, UnknownKey, UnknownRun, UnknownStop, UnknownVariable
from leastlog.forms import Form
from leastlog.kinds import is_whole
from leastlog.orders import difference, exchanged
from leastlog.replays import first_parting, showings_of_history
from leastlog.runs import Run
from leastlog.traces import stops_in

ARCHIVED = "archive"
ENDED = "ended"
LIVE = "live"


class Debugger:
    """An engine and an archive, as they are when they are asked, and a cursor."""

    def __init__(self, engine, archive):
        self.engine = engine
        self.archive = archive
        # The spot to which the cursor was moved last, which may be gone.
        self._moved_to = None

    def clone_for(self, engine, archive):
        """A debugger for another engine and archive whose cursor was moved to the same spot."""
        other = Debugger(engine, archive)
        other._moved_to = self._moved_to
        return other

    def run_keys(self):
        """The list of the keys of all runs."""
        keys = [(ARCHIVED, number) for number in range(len(self.archive))]
        keys.extend([(ENDED, number) for number in self.engine.run_numbers()])
        return [*keys, *[(LIVE, lane) for lane in range(self.engine.lanes) if self.engine.is_busy(lane)]]

    def stops_of(self, key):
        """The number of stops of a run."""
        self._check_key(key)
        return self._stop_count(key)

    def at(self, key, stop):
        """The place and the variables of a stop of a run."""
        self._check_key(key)
        return stop_at(self._showing(key), stop)

    def told(self, key, stop, frame, name):
        """The constant, the weights of the kept numbers and those of the cells, by which a variable is told."""
        self._check_key(key)
        if key[0] != ARCHIVED:
            raise NotArchived(key)
        _, variables = stop_at(stops_in(self.archive.form_trace_of(key[1])), stop)
        if not is_position(frame, variables) or not isinstance(name, str) or name not in variables[frame]:
            raise UnknownVariable(frame, name)
        form = variables[frame][name]
        if not isinstance(form, Form):
            raise NotAmount(name)
        constant, kept, weights, _ = self.archive.told_by(form)
        cells = self.archive.cells()
        return constant, kept, {cell: weight for cell, weight in zip(cells, weights)}

    def cursor(self):
        """The spot at which the cursor stands, None if it stands nowhere."""
        spot = self._moved_to
        if spot is None or spot[0] not in self.run_keys() or spot[1] >= self._stop_count(spot[0]):
            return None
        return spot

    def go(self, key, stop):
        """Moves the cursor to a spot; returns it."""
        self.at(key, stop)
        self._moved_to = (key, stop)
        return self._moved_to

    def forward(self):
        """Moves the cursor to the next spot, from nowhere to the first one; returns it."""
        row, here = self._spots_now(), self.cursor()
        return self._move_along(row, 0 if here is None else row.index(here) + 1)

    def back(self):
        """Moves the cursor to the spot ahead, from nowhere to the last one; returns it."""
        row, here = self._spots_now(), self.cursor()
        return self._move_along(row, len(row) - 1 if here is None else row.index(here) - 1)

    def spots(self):
        """Yields all spots, as they are at the first request."""
        found = self._spots_now()
        for spot in found:
            yield spot

    def why_kept(self, index):
        """Two histories that differ in a kept number alone, and the variable in which they differ first."""
        one, other = self.archive.histories(index)
        parting = first_parting(showings_of_history(self.archive, one), showings_of_history(self.archive, other))
        run, stop, frame, name = parting
        return one, other, ((ARCHIVED, run), stop, frame, name)

    def why_pair(self, number, other):
        """The order in which a run stands ahead of one that its entry names, and what is different there."""
        if number not in self.engine.run_numbers():
            raise UnknownRun(number)
        history = self.engine.ledger().history()
        order = exchanged(history, number, other)
        return order, difference(history, order)

    def lost_by(self, procedure, arguments):
        """How many numbers more the archive would keep with this run, if all runs were let go."""
        with_run, without_run = quiet(self.engine), quiet(self.engine)
        with_run.execute(0, procedure, arguments)
        with_run.sync(0)
        return kept_behind(self.archive, with_run) - kept_behind(self.archive, without_run)

    def _check_key(self, key):
        if not isinstance(key, tuple) or len(key) != 2 or not is_whole(key[1]) or key not in self.run_keys():
            raise UnknownKey(key)

    def _stop_count(self, key):
        kind, number = key
        if kind == ARCHIVED:
            return self.archive.stop_count_of(number)
        return self.engine.stop_count_of(number) if kind == ENDED else self.engine.live_stop_count(number)

    def _showing(self, key):
        """The showing of a run, of one under way so far."""
        kind, number = key
        if kind == ARCHIVED:
            return stops_in(self.archive.trace_of(number))
        if kind == LIVE:
            return stops_in(self.engine.run_of(number).trace())
        record = self.engine.record_of(number)
        if record[0] == "module":
            return []
        program, cells = self.engine.program_at(number), self.engine.cells_at(number)
        return stops_in(Run.traced(program, record[1], record[2], cells))

    def _spots_now(self):
        return [(key, stop) for key in self.run_keys() for stop in range(self._stop_count(key))]

    def _move_along(self, row, position):
        """Moves the cursor to the spot at a position of a list of spots, if there is one."""
        if not 0 <= position < len(row):
            raise NoSpot("there is no spot in this direction")
        self._moved_to = row[position]
        return self._moved_to


def is_position(value, rows):
    """Whether any value is a position in a list."""
    return is_whole(value) and 0 <= value < len(rows)


def stop_at(showing, stop):
    """The stop with this number of a showing."""
    if not is_position(stop, showing):
        raise UnknownStop(stop)
    return showing[stop]


def quiet(engine):
    """A copy of an engine without runs under way, all disks of which are sure."""
    other = engine.clone()
    for lane in range(other.lanes):
        if other.is_busy(lane):
            other.drop(lane)
        other.sync(lane)
    return other


def kept_behind(archive, engine):
    """How many numbers an archive would keep behind letting go the runs of an engine."""
    other = archive.clone()
    other.let_go(engine)
    return len(other.kept())
