"""Stretches: which values rows set and use, and what their stops ask for."""

from leastlog.coderows import all_rows, behind_list, entered_by, set_by, used_by
from leastlog.codes import asked_at, list_at, row_at, values_set_in
from leastlog.errors import InvalidOut, InvalidStretch
from leastlog.failures import UnknownPath, UnknownStop, UnknownValue
from leastlog.kinds import is_list, is_whole


class Stretch:
    """A list of rows, and the values that are used behind them. Stretches never change."""

    def __init__(self, rows, out=()):
        check_rows(rows)
        self._rows = list(rows)
        # The operands of the values, in the order of setting; None for leaves.
        self._operands = {row[1]: row[2] if row[0] == "set" else None for row in rows if row[0] in ("leaf", "set")}
        check_out(out, self._operands)
        self._out = list(out)
        self._stops = [row for row in rows if row[0] == "stop"]
        self._first_stops = {}
        self._live_ends = {value: 0 for value in self._operands}
        self._note_stops()

    def _note_stops(self):
        """Notes for each value its first stop, and how many stops are ahead of its last use."""
        stops = 0
        for row in self._rows:
            if row[0] == "stop":
                stops += 1
                continue
            for value in values_used(row):
                self._live_ends[value] = stops
            if row[0] != "use":
                self._first_stops[row[1]] = stops
        for value in self._out:
            self._live_ends[value] = stops

    @property
    def row_list(self):
        """The list of the rows."""
        return list(self._rows)

    @property
    def out_list(self):
        """The list of the values that are used behind the rows."""
        return list(self._out)

    def all_values(self):
        """The list of the values in the order of setting."""
        return list(self._operands)

    def stops(self):
        """The list of the labels of the stops."""
        return [label for _, label, _ in self._stops]

    def operands(self, value):
        """The tuple of the operands of a value, None for a leaf."""
        self.check_value(value)
        return self._operands[value]

    def asked(self, stop):
        """The tuple of the values that a stop asks for."""
        self.check_stop(stop)
        return self._stops[stop][2]

    def live(self, stop):
        """The ascending list of the values that are live at a stop."""
        self.check_stop(stop)
        return sorted([value for value in self._operands if self.is_present(value, stop) and self.is_live(value, stop)])

    def is_present(self, value, stop):
        """Whether the row of a value stands ahead of a stop."""
        return self._first_stops[value] <= stop

    def is_live(self, value, stop):
        """Whether a value that is present at a stop is used behind it."""
        return stop < self._live_ends[value]

    def first_dead_stop(self, value):
        """The number of the first stop at which a value is present and not live, or the number of stops."""
        return max(self._first_stops[value], self._live_ends[value])

    def is_value(self, value):
        """Whether any value is one of the values that the rows set."""
        return is_whole(value) and value in self._operands

    def is_stop(self, stop):
        """Whether any value is the number of a stop."""
        return is_whole(stop) and 0 <= stop < len(self._stops)

    def check_value(self, value):
        """Raises UnknownValue for any value that is none of the values that the rows set."""
        if not self.is_value(value):
            raise UnknownValue(value)

    def check_stop(self, stop):
        """Raises UnknownStop for any value that is not the number of a stop."""
        if not self.is_stop(stop):
            raise UnknownStop(stop)

    def __eq__(self, other):
        return isinstance(other, Stretch) and self._rows == other._rows and self._out == other._out

    def __len__(self):
        return len(self._rows)


def check_rows(rows):
    """Raises InvalidStretch for any value that is not a list of rows."""
    if not is_list(rows):
        raise InvalidStretch(None)
    values = {}
    for position, row in enumerate(rows):
        if not is_row(row, values):
            raise InvalidStretch(position)
        if row[0] in ("leaf", "set"):
            values[row[1]] = True


def check_out(out, values):
    """Raises InvalidOut for any value that is not a list of values that are set."""
    if not is_list(out):
        raise InvalidOut(None)
    for position, value in enumerate(out):
        if not is_whole(value) or value not in values:
            raise InvalidOut(position)


def is_row(row, values):
    """Whether any value is a row behind rows that set these values."""
    if not isinstance(row, tuple) or len(row) < 2 or not isinstance(row[0], str):
        return False
    if row[0] == "leaf":
        return len(row) == 2 and is_new(row[1], values)
    if row[0] == "set":
        return len(row) == 3 and is_new(row[1], values) and are_set(row[2], values)
    if row[0] == "use":
        return len(row) == 2 and are_set(row[1], values)
    return row[0] == "stop" and len(row) == 3 and isinstance(row[1], str) and are_set(row[2], values)


def is_new(value, values):
    """Whether any value is a value that is not among these."""
    return is_whole(value) and value >= 0 and value not in values


def are_set(part, values):
    """Whether any value is a tuple of some of these values."""
    return isinstance(part, tuple) and all([is_whole(value) and value in values for value in part])


def values_used(row):
    """The values that a row needs."""
    if row[0] == "use":
        return row[1]
    return row[2] if row[0] == "set" else ()


def stretch_of(code, path=()):
    """The stretch of a list of rows of a code."""
    rows = list_at(code.rows, path)
    if rows is None:
        raise UnknownPath(path)
    if not path:
        entered, behind = [value for value, _ in code.parameters], []
    else:
        above = row_at(code.rows, path[:-1])
        entered, behind = entered_by(above), behind_list(above, path[-1])
    outer = outer_values(rows, entered, behind)
    found = [("leaf", value) for value in [*entered, *outer]]
    for row in rows:
        found.extend(stretch_rows(row))
    return Stretch(found, sorted({value: True for value in [*behind, *outer]}))


def outer_values(rows, entered, behind):
    """The ascending list of the values set outside of a list that occur in it or behind it."""
    inside = {value: True for value in [*entered, *values_set_in(rows)]}
    used = [value for row in all_rows(rows) for value in used_by(row)]
    return sorted({value: True for value in [*used, *behind] if value not in inside})


def stretch_rows(row):
    """The rows of a stretch for a row of a code."""
    kind = row[0]
    if kind in ("form", "scale", "share", "known", "op", "test"):
        return [("set", row[1], tuple(used_by(row)))]
    if kind == "stop":
        return [("stop", row[1][-1][1], tuple(asked_at(row)))]
    used = outer_values([row], (), ()) if kind in ("if", "repeat", "while") else used_by(row)
    # A read without an index needs nothing.
    needs = [] if kind == "read" and not used else [("use", tuple(used))]
    return [*needs, *[("leaf", value) for value in set_by(row)]]
