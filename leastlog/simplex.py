"""Tableaus: forms that are not above 0, solved for their slacks.

The SLACK of a form is minus its value, so it is at least 0. It has the mark of the form, so each row
without symbols says that its slacks, each times its number, and its constant add up to 0. A tableau
has such a row for each BASIC slack, in which that slack has a number above 0 and no other basic slack
stands. At the present basic slacks the others are 0, and no basic one is below 0. A slack goes up from 0
by becoming basic; those of fixed forms never do.
"""

from leastlog.amounts import Amount
from leastlog.between import simplest_within
from leastlog.echelon import Echelon
from leastlog.rows import CONSTANT, cleared, is_absurd, marks_of, row_of, symbols_of

# The mark of the form whose value is to go up: the others have the marks from 0 on.
AIM = -1

# After so many steps of a climb that raised nothing, care is taken not to go in a ring.
MOST_IDLE_STEPS = 400

# The motions of slacks are compared in whole bits, so many for 1.
BITS = 1024


class Tableau:
    """Forms by their marks; those that are fixed are 0, the others not above 0."""

    def __init__(self):
        self._symbol_rows = Echelon()
        self._basic = {}
        self._bounded = {}
        self._fixed = {}

    def clone(self):
        """An independent tableau at the same basic slacks."""
        other = Tableau()
        other._symbol_rows = self._symbol_rows
        other._basic = dict(self._basic)
        other._bounded = self._bounded
        other._fixed = self._fixed
        return other

    def add_fixed(self, form, mark):
        """Enters a form that is 0, ahead of all that are not; returns a row that cannot hold, or None."""
        self._fixed[mark] = True
        row = self._symbol_rows.enter(form, mark)
        return row if is_absurd(row) else None

    def add_bound(self, form, mark):
        """Enters a form that is not above 0; returns a row that cannot hold, or None."""
        self._bounded[mark] = True
        row = self._symbol_rows.enter(form, mark)
        if symbols_of(row):
            return None
        row = self._without_basic(row)
        if row.get(CONSTANT, 0) > 0:
            row, ray = self.climb(turned(row, mark, AIM))
            row = turned(row, AIM, mark)
            if ray is not None:
                self._basic[mark] = row
                self._exchange(mark, ray)
                return None
            if row.get(CONSTANT, 0) > 0:
                return row
        self._basic[mark] = row
        return None

    def aimed(self, form):
        """The row of a form with the mark AIM over the slacks that are not basic, perhaps over symbols."""
        row = self._symbol_rows.reduced(row_of(form, AIM))
        return self._without_basic(row)

    def aimed_at_slacks(self, marks):
        """The row of the sum of these slacks with the mark AIM."""
        row = {mark: 1 for mark in marks}
        row[AIM] = 1
        return self._without_basic(row)

    def climb(self, row):
        """Raises the form of the row until its value is above 0, or cannot go up.

        Returns the row as it is then, and the slack which raises the form without end, or None.
        """
        idle_steps = 0
        while row.get(CONSTANT, 0) <= 0:
            entering = self._entering(row, idle_steps)
            if entering is None:
                return row, None
            leaving = self._first_to_end(entering)
            if leaving is None:
                return row, entering
            idle_steps = 0 if CONSTANT in self._basic[leaving] else idle_steps + 1
            self._exchange(leaving, entering)
            row = cleared(row, self._basic[entering], entering)
        return row, None

    def slacks(self):
        """The slacks other than 0 at a spot where as many as the basic ones allow are above 0."""
        raised = self._slacks_to_raise()
        limits = [(Amount(0), -1)]
        for row in self._basic.values():
            pace = sum([row.get(mark, 0) for mark in raised])
            if pace > 0:
                limits.append((Amount(-row.get(CONSTANT, 0), pace), 1))
        level = simplest_within(limits)
        found = {mark: level for mark in raised}
        for basic, row in self._basic.items():
            total = level * sum([row.get(mark, 0) for mark in raised]) + row.get(CONSTANT, 0)
            if total.sign:
                found[basic] = -total.over(row[basic])
        return found

    def point_at(self, slacks):
        """The amounts of the symbols at these slacks; symbols that it lacks may be anything, and count as 0."""
        return self._symbol_rows.pivot_values(slacks)

    def _slacks_to_raise(self):
        """The slacks that are not basic, and do not lower a basic one that is 0."""
        flat_rows = [row for row in self._basic.values() if CONSTANT not in row]
        loose = [mark for mark in self._bounded if mark not in self._basic]
        return [mark for mark in loose if all([row.get(mark, 0) <= 0 for row in flat_rows])]

    def _entering(self, row, idle_steps):
        """The slack that is to raise the form of the row, or None if none can."""
        found = [mark for mark in marks_of(row) if row[mark] > 0 and mark != AIM and mark not in self._fixed]
        if not found:
            return None
        if idle_steps > MOST_IDLE_STEPS:
            # Taking the smallest marks keeps the choices from going in a ring.
            return found[0]
        best = self._most_raising(row, found)
        return self._steepest(row, found) if best is None else best

    def _most_raising(self, row, marks):
        """The slack that raises the form most before a basic one comes to 0; None if none raises it at all."""
        best, top, bottom = None, 0, 1
        for mark in marks:
            leaving = self._first_to_end(mark)
            if leaving is None:
                return mark
            limit = self._basic[leaving]
            gain = -limit.get(CONSTANT, 0) * row[mark]
            if gain * bottom > top * limit[mark]:
                best, top, bottom = mark, gain, limit[mark]
        return best

    def _steepest(self, row, marks):
        """The slack with which the form goes up most for each bit that the basic slacks at 0 move."""
        best, top, bottom = None, 0, 1
        for mark in marks:
            motion = BITS
            for basic, other in self._basic.items():
                if CONSTANT not in other:
                    motion += abs(other.get(mark, 0)) * BITS // other[basic]
            if row[mark] * bottom > top * motion:
                best, top, bottom = mark, row[mark], motion
        return best

    def _without_basic(self, row):
        for mark in marks_of(row):
            if mark in self._basic:
                row = cleared(row, self._basic[mark], mark)
        return row

    def _first_to_end(self, entering):
        """The basic slack that is the first to come to 0 when the entering one goes up, or None."""
        first, top, bottom = None, 0, 1
        for mark in sorted(self._basic):
            row = self._basic[mark]
            pace = row.get(entering, 0)
            if pace > 0 and (first is None or -row.get(CONSTANT, 0) * bottom < top * pace):
                first, top, bottom = mark, -row.get(CONSTANT, 0), pace
        return first

    def _exchange(self, leaving, entering):
        """Makes one slack basic instead of another one."""
        row = self._basic.pop(leaving)
        if row[entering] < 0:
            row = {key: -row[key] for key in row}
        for mark in list(self._basic):
            self._basic[mark] = cleared(self._basic[mark], row, entering)
        self._basic[entering] = row


def turned(row, mark, other):
    """The row of minus its form, which had the one mark and gets the other one."""
    found = {key: -row[key] for key in row if key != mark}
    found[other] = row[mark]
    return found
