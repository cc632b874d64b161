"""The pass that computes nothing twice."""

from leastlog.coderows import PLAIN
from leastlog.rewriting import Rewriter


class Sharing(Rewriter):
    """Leaves out rows that are equal to earlier ones of their list or of a list around."""

    def __init__(self):
        Rewriter.__init__(self)
        # The values by what the rows that set them do.
        self._table = {}

    def rewritten(self, rows):
        """The rows of a list; what it sets is not there behind it."""
        outer = {key: self._table[key] for key in self._table}
        found = super().rewritten(rows)
        self._table = outer
        return found

    def replacing(self, row):
        """The row, or nothing if an earlier one sets the same."""
        row = self.with_names(row)
        if row[0] not in PLAIN and row[0] != "share":
            return [row]
        key = key_of(row)
        if key in self._table:
            self.put_in_place([row[1]], [self._table[key]])
            return []
        self._table[key] = row[1]
        return [row]


def key_of(row):
    """What a row does, but for the value that it sets, as a key of a dict."""
    if row[0] == "form":
        parts = [(value, weight.top, weight.bottom) for value, weight in row[3]]
        return "form", row[2].top, row[2].bottom, tuple(parts)
    if row[0] == "known":
        # True and 1 are the same key.
        return "known", isinstance(row[2], bool), row[2]
    return row[0], *row[2:]
