"""Ledgers: runs that end one after another, and attempts, which become the next run unless they are stale."""

from leastlog.errors import InvalidCell
from leastlog.failures import AttemptOver, LaneBusy, Stale, UnknownRun
from leastlog.histories import UNWRITTEN, Naming, check_history, is_cell_text
from leastlog.kinds import is_whole
from leastlog.lanes import check_count, check_lane


class Ledger:
    """The history of some lanes, and their attempts that are not over."""

    def __init__(self, lanes):
        check_count(lanes)
        self._lanes = lanes
        self._history = []
        self._naming = Naming()
        # The ascending lists of the runs that write cells.
        self._writers = {}
        # For each run its lane and its position there.
        self._spots = []
        self._busy = {}

    @classmethod
    def replayed(cls, lanes, history):
        """The ledger with this history."""
        ledger = cls(lanes)
        check_history(history, lanes)
        for footprint in history:
            ledger.add_run(footprint)
        return ledger

    @property
    def lanes(self):
        """The number of lanes."""
        return self._lanes

    def begin(self, lane):
        """A new attempt in a lane that has none."""
        check_lane(lane, self._lanes)
        if lane in self._busy:
            raise LaneBusy(lane)
        self._busy[lane] = True
        return Attempt(self, lane)

    def newest(self, cell):
        """The newest version of a cell."""
        check_cell_text(cell)
        return self.version_below(cell, len(self._history))

    def version_below(self, cell, place):
        """The newest version of a cell when so many runs had ended."""
        earlier = [run for run in self._writers.get(cell, []) if run < place]
        return earlier[-1] if earlier else UNWRITTEN

    def history(self):
        """The list of the footprints."""
        return list(self._history)

    def pairs(self, run):
        """The sorted list of the runs that the entry of a run names."""
        self._check_run(run)
        return self._naming.named_by(run)

    def spot_of(self, run):
        """The lane of a run and its position there."""
        self._check_run(run)
        return self._spots[run]

    def clone(self):
        """A ledger with the same history, without attempts."""
        return Ledger.replayed(self._lanes, self._history)

    def add_run(self, footprint):
        """Adds the next run; returns its number."""
        lane, _, writes = footprint
        run = len(self._history)
        self._history.append(footprint)
        self._naming.add_run(footprint)
        self._spots.append((lane, len([spot for spot in self._spots if spot[0] == lane])))
        for cell in writes:
            self._writers.setdefault(cell, []).append(run)
        return run

    def free(self, lane):
        """The attempt of the lane is over."""
        del self._busy[lane]

    def _check_run(self, run):
        if not is_whole(run) or not 0 <= run < len(self._history):
            raise UnknownRun(run)

    def __eq__(self, other):
        return isinstance(other, Ledger) and self._lanes == other._lanes and self._history == other._history

    def __len__(self):
        return len(self._history)


class Attempt:
    """What a run that has not ended yet has read and written."""

    def __init__(self, ledger, lane):
        self._ledger = ledger
        self._lane = lane
        self._place = len(ledger)
        self._reads = {}
        self._writes = {}
        self._is_over = False

    @property
    def lane(self):
        """The lane of the attempt."""
        return self._lane

    @property
    def place(self):
        """The number of runs that had ended when the attempt began."""
        return self._place

    @property
    def is_over(self):
        """Whether the attempt has ended or was dropped."""
        return self._is_over

    def read(self, cell):
        """Reads a cell; returns its version, None if the attempt has written it."""
        self._check_under_way()
        check_cell_text(cell)
        if cell in self._writes:
            return None
        self._reads[cell] = True
        return self._ledger.version_below(cell, self._place)

    def write(self, cell):
        """Writes a cell."""
        self._check_under_way()
        check_cell_text(cell)
        self._writes[cell] = True

    def end(self):
        """The attempt becomes the next run; returns its number. It is over, also if it is stale."""
        self.drop()
        for cell in sorted(self._reads):
            if self._ledger.newest(cell) >= self._place:
                raise Stale(cell)
        return self._ledger.add_run((self._lane, tuple(sorted(self._reads)), tuple(sorted(self._writes))))

    def drop(self):
        """The attempt is over without becoming a run."""
        self._check_under_way()
        self._is_over = True
        self._ledger.free(self._lane)

    def _check_under_way(self):
        if self._is_over:
            raise AttemptOver("the attempt is over")


def check_cell_text(cell):
    """Raises InvalidCell for any value that is no cell of a history."""
    if not is_cell_text(cell):
        raise InvalidCell(cell)
