"""Journals: the entries of runs on the disks of their lanes, and which of them count."""

from leastlog.disks import Disk
from leastlog.entries import is_spot
from leastlog.errors import InvalidCut, InvalidLength
from leastlog.failures import NotRecovered, UnknownEntry
from leastlog.kinds import is_list, is_whole
from leastlog.lanelogs import LaneLog
from leastlog.lanes import check_count, check_lane, is_lane
from leastlog.seals import check_record


class Journal:
    """A log for each lane."""

    def __init__(self, lanes):
        check_count(lanes)
        self._logs = [LaneLog(lane, Disk(), 0) for lane in range(lanes)]

    def enter(self, lane, pairs, payload):
        """Writes the next entry of a lane, which names those of these pairs; returns its place."""
        self._check_lane(lane)
        if not self._logs[lane].is_recovered():
            raise NotRecovered(lane)
        self._check_pairs(lane, pairs)
        check_record(payload)
        return self._logs[lane].enter(sorted({pair: True for pair in pairs}), payload)

    def entries(self, lane):
        """The list of the entries of a lane that are found."""
        self._check_lane(lane)
        return self._logs[lane].entries()

    def disk(self, lane):
        """A copy of the disk of a lane."""
        self._check_lane(lane)
        return self._logs[lane].disk()

    def counting(self):
        """For each lane the number of entries that count, dropped ones included."""
        return self._numbers_by([log.size() for log in self._logs])

    def durable(self):
        """For each lane the number of entries that are durable, dropped ones included."""
        return self._numbers_by([log.sure_size() for log in self._logs])

    def cut(self):
        """For each lane the number of entries that are dropped."""
        return [log.cut() for log in self._logs]

    def order(self):
        """The recovered order of the entries that count, tuples (lane, place), without dropped ones."""
        return self._recovery([log.size() for log in self._logs])

    def sync(self, *lanes):
        """All that the disks of these lanes have is sure; of all lanes if there are none."""
        for lane in lanes:
            self._check_lane(lane)
        for lane in lanes or list(range(len(self._logs))):
            self._logs[lane].sync()

    def stopped(self, lengths):
        """The journal as it is found if the disks stop at these lengths."""
        if not is_list(lengths) or len(lengths) != len(self._logs):
            raise InvalidLength(lengths)
        return self._with_logs([log.stopped(length) for log, length in zip(self._logs, lengths)])

    def recovered(self):
        """The journal of the entries that count, all of them sure."""
        return self._with_logs([log.up_to(number) for log, number in zip(self._logs, self.counting())])

    def drop(self, cut):
        """Drops the entries below these numbers, one for each lane."""
        if not self._is_cut(cut):
            raise InvalidCut(cut)
        self._logs = [log.dropped(number) for log, number in zip(self._logs, cut)]

    def clone(self):
        """An independent journal with the same disks."""
        return self._with_logs([log.clone() for log in self._logs])

    def _with_logs(self, logs):
        other = Journal(len(logs))
        other._logs = logs
        return other

    def _check_lane(self, lane):
        check_lane(lane, len(self._logs))

    def _check_pairs(self, lane, pairs):
        if not is_list(pairs):
            raise UnknownEntry(pairs)
        for pair in pairs:
            if not self._is_entry(pair) or pair[0] == lane:
                raise UnknownEntry(pair)

    def _is_entry(self, value):
        """Whether any value is the lane and the place of an entry that is found or dropped."""
        return is_spot(value) and is_lane(value[0], len(self._logs)) and 0 <= value[1] < self._logs[value[0]].size()

    def _is_cut(self, value):
        """Whether any value is a cut up to which entries can be dropped."""
        if not is_list(value) or len(value) != len(self._logs) or not all([is_whole(number) for number in value]):
            return False
        if not all([low <= number <= high for low, number, high in zip(self.cut(), value, self.counting())]):
            return False
        dropped = [entry for log in self._logs for entry in log.entries() if entry[1] < value[entry[0]]]
        return all([place < value[lane] for entry in dropped for lane, place in entry[2]])

    def _numbers_by(self, sizes):
        """For each lane the number of entries that count if only those below the sizes are found."""
        numbers = self.cut()
        for lane, _ in self._recovery(sizes):
            numbers[lane] += 1
        return numbers

    def _recovery(self, sizes):
        """The recovered order if only the entries below the sizes are found: whatever it lacks does not count."""
        waiting = [log.entries()[:size - log.cut()] for log, size in zip(self._logs, sizes)]
        numbers = self.cut()
        order = []
        lane = 0
        while lane < len(waiting):
            entries = waiting[lane]
            if entries and all([counts(pair, numbers) for pair in entries[0][2]]):
                order.append(entries.pop(0)[:2])
                numbers[lane] += 1
                # An entry of an earlier lane, which comes first, may have waited for this one.
                lane = 0
            else:
                lane += 1
        return order

    def __eq__(self, other):
        return isinstance(other, Journal) and self._contents() == other._contents()

    def _contents(self):
        return [log.contents() for log in self._logs]


def counts(pair, numbers):
    """Whether the entry of a pair is below the numbers of the lanes."""
    lane, place = pair
    return lane < len(numbers) and place < numbers[lane]
