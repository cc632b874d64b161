"""The logs of lanes: their disks, and the entries that are found there."""

from leastlog.disks import Disk
from leastlog.entries import entry_record, read_entry
from leastlog.seals import sealed, whole_records


class LaneLog:
    """The disk of a lane, and the entries found on it behind those that are dropped."""

    def __init__(self, lane, disk, cut):
        self._lane = lane
        self._disk = disk
        self._cut = cut
        self._entries = []
        # How long the text is with each of these entries.
        self._ends = []
        for record in whole_records(disk.content):
            entry = read_entry(lane, record)
            if entry is None or entry[1] != self.size():
                break
            self._take(entry, sealed(record))

    def _take(self, entry, row):
        self._ends.append(self._end_of(self.size()) + len(row))
        self._entries.append(entry)

    def _end_of(self, number):
        """How long the text of the entries below this number is."""
        return self._ends[number - self._cut - 1] if number > self._cut else 0

    def cut(self):
        """The number of entries that are dropped."""
        return self._cut

    def size(self):
        """The number of entries that are found or dropped."""
        return self._cut + len(self._entries)

    def sure_size(self):
        """The number of entries that are found or dropped if only the sure beginning is found."""
        return self._cut + len([end for end in self._ends if end <= self._disk.sure])

    def entries(self):
        """The list of the entries that are found."""
        return list(self._entries)

    def disk(self):
        """A copy of the disk."""
        return self._disk.clone()

    def contents(self):
        """What makes logs equal: the cut and the disk."""
        return self._cut, self._disk

    def is_recovered(self):
        """Whether the disk has no text behind the entries."""
        return len(self._disk.content) == self._end_of(self.size())

    def enter(self, pairs, payload):
        """Writes an entry that names these; returns its place."""
        place = self.size()
        row = sealed(entry_record(place, pairs, payload))
        self._disk.append(row)
        self._take((self._lane, place, tuple(pairs), payload), row)
        return place

    def sync(self):
        """All that is on the disk is sure."""
        self._disk.sync()

    def stopped(self, length):
        """The log as it is found if the disk stops at this length."""
        return LaneLog(self._lane, self._disk.stopped(length), self._cut)

    def up_to(self, number):
        """The log with the entries below this number alone, all of it sure."""
        return LaneLog(self._lane, Disk(self._disk.content[:self._end_of(number)]), self._cut)

    def dropped(self, number):
        """The log in which the entries below this number are dropped."""
        return LaneLog(self._lane, self._disk.without_beginning(self._end_of(number)), number)

    def clone(self):
        """An independent log with the same entries."""
        return LaneLog(self._lane, self.disk(), self._cut)
