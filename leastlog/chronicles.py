"""Chronicles: the runs that have ended, and the programs and stores between them."""

from leastlog.failures import UnknownRun
from leastlog.kinds import is_whole


class Chronicle:
    """What is known of the ended runs of an engine, from those that were released last on."""

    def __init__(self, program, cells):
        self._first = 0
        self._records = []
        self._lanes = []
        # How many stops each run had.
        self._stops = []
        # Just before each run, and at last now.
        self._programs = [program]
        self._stores = [cells]

    def clone(self):
        """An independent chronicle of the same runs."""
        other = Chronicle(None, None)
        other._first = self._first
        other._records = list(self._records)
        other._lanes = list(self._lanes)
        other._stops = list(self._stops)
        other._programs = list(self._programs)
        other._stores = list(self._stores)
        return other

    def add_run(self, lane, record, stops, program, cells):
        """Adds the next run, which had so many stops, and behind which there are this program and this store."""
        self._records.append(record)
        self._lanes.append(lane)
        self._stops.append(stops)
        self._programs.append(program)
        self._stores.append(cells)

    def release(self):
        """Forgets the runs; the numbers of later ones go on."""
        self._first = self.end_number()
        self._records = []
        self._lanes = []
        self._stops = []
        self._programs = self._programs[-1:]
        self._stores = self._stores[-1:]

    def first_number(self):
        """The number of the first run that is not released."""
        return self._first

    def end_number(self):
        """The number of runs that have ended, released ones included."""
        return self._first + len(self._records)

    def numbers(self):
        """The list of the runs that are not released."""
        return list(range(self._first, self._first + len(self._records)))

    def records(self):
        """The list of their records."""
        return list(self._records)

    def record_of(self, number):
        """The record of a run."""
        return self._records[self._position_of(number, len(self._records))]

    def lane_of(self, number):
        """The lane of a run."""
        return self._lanes[self._position_of(number, len(self._records))]

    def stop_count_of(self, number):
        """The number of stops that a run had."""
        return self._stops[self._position_of(number, len(self._records))]

    def program_at(self, number):
        """The program just before a run; now, for the number of ended runs."""
        return self._programs[self._position_of(number, len(self._programs))]

    def cells_at(self, number):
        """The store just before a run; now, for the number of ended runs."""
        return dict(self._stores[self._position_of(number, len(self._stores))])

    def program_now(self):
        """The program behind all runs."""
        return self._programs[-1]

    def cells_now(self):
        """The store behind all runs."""
        return dict(self._stores[-1])

    def check_run(self, number):
        """Raises UnknownRun for any value that is no run, or a released one."""
        self._position_of(number, len(self._records))

    def _position_of(self, number, many):
        if not is_whole(number) or not 0 <= number - self._first < many:
            raise UnknownRun(number)
        return number - self._first
