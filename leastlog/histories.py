"""Histories: what runs read and write, and which earlier runs their entries name."""

from leastlog.errors import InvalidHistory
from leastlog.kinds import DIGITS, LETTERS, has_only, is_list, is_whole

LONGEST_CELL = 32
MOST_LANES = 8

# The version of a cell that no run has written.
UNWRITTEN = -1


def check_history(history, lanes=MOST_LANES):
    """Raises InvalidHistory for any value that is not a history with so many lanes."""
    if not is_list(history):
        raise InvalidHistory(None)
    for position, footprint in enumerate(history):
        if not is_footprint(footprint, lanes):
            raise InvalidHistory(position)


def is_footprint(value, lanes):
    """Whether any value is a footprint in one of so many lanes."""
    if not isinstance(value, tuple) or len(value) != 3 or not is_whole(value[0]):
        return False
    return 0 <= value[0] < lanes and are_cell_texts(value[1]) and are_cell_texts(value[2])


def are_cell_texts(value):
    """Whether any value is a sorted tuple of different cells."""
    if not isinstance(value, tuple) or not all([is_cell_text(cell) for cell in value]):
        return False
    return all([value[at] < value[at + 1] for at in range(len(value) - 1)])


def is_cell_text(value):
    """Whether any value is a cell of a history."""
    return isinstance(value, str) and 1 <= len(value) <= LONGEST_CELL and has_only(value, LETTERS + DIGITS + ".")


class Naming:
    """The runs of a history that the entry of each run names."""

    def __init__(self, history=()):
        self._last_of_lanes = {}
        self._writers = {}
        # The runs that have read a cell behind its last writer.
        self._readers = {}
        self._previous = []
        self._named = []
        self._ahead = []
        for footprint in history:
            self.add_run(footprint)

    def add_run(self, footprint):
        """Adds the next run."""
        lane, reads, writes = footprint
        run = len(self._named)
        due = self._due(reads, writes)
        previous = self._last_of_lanes.get(lane)
        joined = due if previous is None else [*due, previous]
        behind = {other: True for one in joined for other in self._ahead[one]}
        named = [other for other in due if other != previous and other not in behind]
        ahead = {other: True for other in joined}
        ahead.update(behind)
        self._named.append(named)
        self._previous.append(previous)
        self._ahead.append(ahead)
        self._last_of_lanes[lane] = run
        for cell in reads:
            self._readers.setdefault(cell, []).append(run)
        for cell in writes:
            self._writers[cell] = run
            self._readers[cell] = []

    def _due(self, reads, writes):
        """The ascending list of the runs with which the next run is a due pair."""
        found = {self._writers[cell]: True for cell in [*reads, *writes] if cell in self._writers}
        found.update({run: True for cell in writes for run in self._readers.get(cell, [])})
        return sorted(found)

    def named_by(self, run):
        """The ascending list of the runs that the entry of a run names."""
        return list(self._named[run])

    def previous_of(self, run):
        """The previous run of the lane of a run, or None."""
        return self._previous[run]

    def is_ahead(self, run, other):
        """Whether a run is ahead of another one."""
        return run in self._ahead[other]


class Versions:
    """The versions that the runs of a history read in an order, and the last ones of all cells."""

    def __init__(self, history, order):
        self._versions = {}
        self._newest = {}
        for run in order:
            _, reads, writes = history[run]
            self._versions[run] = {cell: self.last_of(cell) for cell in reads}
            self._newest.update({cell: run for cell in writes})

    def read_by(self, run):
        """The dict from the cells that a run reads, sorted, to their versions."""
        return dict(self._versions[run])

    def last_of(self, cell):
        """The last version of a cell."""
        return self._newest.get(cell, UNWRITTEN)

    def written(self):
        """The sorted list of the cells that some run writes."""
        return sorted(self._newest)
