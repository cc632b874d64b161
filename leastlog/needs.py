"""The pass that leaves out what is not needed."""

from leastlog.coderows import LOOPS, PLAIN, all_rows, lists_of, loop_parts, thinned, used_by, with_lists


class Needs:
    """Which values of a code are needed."""

    def __init__(self, code):
        self._needed = {}
        # For a value that is needed only if something is, what it makes needed then.
        self._sources = {}
        self._todo = []
        for row in all_rows(code.rows):
            self._note(row)
        while self._todo:
            self._add(self._sources.get(self._todo.pop(), []))

    def _add(self, values):
        for value in values:
            if value not in self._needed:
                self._needed[value] = True
                self._todo.append(value)

    def _note(self, row):
        kind = row[0]
        if kind in PLAIN:
            self._sources[row[1]] = used_by(row)
        elif kind == "if":
            self._add([row[1]])
            for value, other, joined in zip(row[3], row[5], row[6]):
                self._sources[joined] = [value, other]
        elif kind in LOOPS:
            self._add([row[1] if kind == "repeat" else row[5]])
            parts = loop_parts(row)
            for parameter, begun, value, joined in zip(*parts):
                self._sources[parameter] = self._sources[joined] = [begun, value]
        else:
            self._add(used_by(row))

    def kept(self, rows):
        """The rows of a list that set what is needed, or do anything else."""
        return tuple([self._thinned(row) for row in rows if row[0] not in PLAIN or row[1] in self._needed])

    def _thinned(self, row):
        if row[0] == "if":
            positions = [at for at, joined in enumerate(row[6]) if joined in self._needed]
        elif row[0] in LOOPS:
            parameters, _, _, joined = loop_parts(row)
            both = [(parameters[at], joined[at]) for at in range(len(joined))]
            positions = [at for at, (one, other) in enumerate(both) if one in self._needed or other in self._needed]
        else:
            return row
        return with_lists(thinned(row, positions), [self.kept(inner) for inner in lists_of(row)])
