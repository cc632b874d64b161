"""Frames: where the values that are held at stops stand, and how all others are computed from them."""

from leastlog.cuts import least_keeps
from leastlog.errors import InvalidContents
from leastlog.failures import Insufficient, IsLost, NotHeld
from leastlog.keeps import check_keeps, first_lost, known_values
from leastlog.kinds import is_whole


class FramePlan:
    """The plan of the frames of a stretch for sufficient keeps. Plans never change."""

    def __init__(self, stretch, keeps):
        check_keeps(stretch, keeps)
        self._stretch = stretch
        self._known = known_values(stretch, keeps)
        lost = first_lost(stretch, self._known)
        if lost is not None:
            raise Insufficient(lost[1], lost[0])
        kept = {(value, stop): True for value, stop in keeps}
        # For each stop the dict from the held values to their slots.
        self._slots_at = []
        held = {}
        for stop, values in enumerate(self._known):
            here = [value for value in values if stretch.is_live(value, stop) or (value, stop) in kept]
            held = slots_for(here, held)
            self._slots_at.append(held)

    @classmethod
    def least(cls, stretch):
        """The plan for the least keeps."""
        return cls(stretch, least_keeps(stretch))

    @property
    def slots(self):
        """How many slots are used at all stops together."""
        return 1 + max([slot for held in self._slots_at for slot in held.values()], default=-1)

    def held(self, stop):
        """The ascending list of the values held at a stop."""
        self._stretch.check_stop(stop)
        return sorted(self._slots_at[stop])

    def slot_of(self, value, stop):
        """The slot of a value that is held at a stop."""
        self._stretch.check_value(value)
        self._stretch.check_stop(stop)
        if value not in self._slots_at[stop]:
            raise NotHeld(value, stop)
        return self._slots_at[stop][value]

    def recipe(self, value, stop):
        """The list of the values that have to be computed for a value known at a stop."""
        self._stretch.check_value(value)
        self._stretch.check_stop(stop)
        if value not in self._known[stop]:
            raise IsLost(value, stop)
        return self._recipe([value], stop)

    def _recipe(self, values, stop):
        """The values that have to be computed for known values, in the order of their rows."""
        found = {}
        todo = list(values)
        while todo:
            value = todo.pop()
            if value not in found and value not in self._slots_at[stop]:
                found[value] = True
                todo.extend(list(self._stretch.operands(value)))
        return [value for value in self._known[stop] if value in found]

    def walk(self, leaf, compute):
        """Yields the label and the contents of the slots for each stop, in sequence."""
        worths = {}
        stop = 0
        for row in self._stretch.row_list:
            if row[0] == "leaf":
                worths[row[1]] = leaf(row[1])
            elif row[0] == "set":
                worths[row[1]] = compute(row[1], [worths[operand] for operand in row[2]])
            elif row[0] == "stop":
                held = self._by_slots(stop)
                yield row[1], {slot: worths[held[slot]] for slot in held}
                stop += 1

    def _by_slots(self, stop):
        """The dict from the slots in use at a stop, ascending, to their values."""
        values = {slot: value for value, slot in self._slots_at[stop].items()}
        return {slot: values[slot] for slot in sorted(values)}

    def tell(self, stop, contents, compute):
        """The dict from the asked values of a stop to what they are, computed from the contents of the slots."""
        self._stretch.check_stop(stop)
        if not isinstance(contents, dict):
            raise InvalidContents(None)
        held = self._by_slots(stop)
        # True is no slot, although it is equal to 1.
        given = {slot: contents[slot] for slot in contents if is_whole(slot)}
        for slot in held:
            if slot not in given:
                raise InvalidContents(slot)
        worths = {held[slot]: given[slot] for slot in held}
        asked = sorted({value: True for value in self._stretch.asked(stop)})
        for value in self._recipe(asked, stop):
            worths[value] = compute(value, [worths[operand] for operand in self._stretch.operands(value)])
        return {value: worths[value] for value in asked}


def slots_for(values, ahead):
    """The dict from held values to their slots, behind a stop at which other values had slots."""
    found = {value: ahead[value] for value in values if value in ahead}
    taken = {slot: True for slot in found.values()}
    free = 0
    for value in values:
        if value not in found:
            while free in taken:
                free += 1
            found[value] = free
            taken[free] = True
    return found
