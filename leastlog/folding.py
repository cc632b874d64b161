"""The pass that computes what is known."""

from leastlog.amounts import Amount
from leastlog.coderows import loop_parts, merged
from leastlog.machine import operated
from leastlog.rewriting import Rewriter


class Folding(Rewriter):
    """Computes what is known, and leaves out the lists that are never done."""

    def __init__(self):
        Rewriter.__init__(self)
        # What the known values are.
        self._known = {}

    def replacing(self, row):
        """The row, or, if it is known which list of it is done, that list."""
        kind = row[0]
        if kind == "if" and self._is_known(row[1]):
            return self._chosen(row)
        if kind == "repeat" and self._is_known(row[1]) and self._worth(row[1]) < 1:
            return self._passed_by(row)
        if kind == "while":
            return self._of_while(row)
        return [self._folded(self.with_names(row))]

    def _is_known(self, value):
        return self.value_for(value) in self._known

    def _worth(self, value):
        return self._known[self.value_for(value)]

    def _chosen(self, row):
        """The one list of an if that is done."""
        rows, values = (row[2], row[3]) if self._worth(row[1]) else (row[4], row[5])
        found = self.rewritten(rows)
        self.put_in_place(row[6], values)
        return found

    def _passed_by(self, row):
        """No rows in the place of a loop without turns."""
        _, begun, _, joined = loop_parts(row)
        self.put_in_place(joined, begun)
        return []

    def _of_while(self, row):
        """The loop, or its head alone, if that is known to be no."""
        found = self.with_names(row)
        truth = found[5]
        if truth not in self._known or self._known[truth]:
            return [found]
        parameters, begun, _, _ = loop_parts(row)
        self.put_in_place(parameters, begun)
        return [*self.rewritten(row[4]), *self._passed_by(row)]

    def _folded(self, row):
        """A row whose known values are computed."""
        kind = row[0]
        if kind == "known":
            self._known[row[1]] = row[2]
        elif kind == "op" and all([value in self._known for value in row[3]]):
            worth = operated(row[2], [self._known[value] for value in row[3]])
            self._known[row[1]] = worth
            return "known", row[1], worth
        elif kind == "scale" and row[3] in self._known:
            return "form", row[1], Amount(0), merged([(row[2], Amount(self._known[row[3]]))])
        elif kind == "stop":
            shown = [tuple([(variable, self._told(told)) for variable, told in frame]) for frame in row[2]]
            return "stop", row[1], tuple(shown)
        return row

    def _told(self, told):
        return ("known", self._known[told[1]]) if told[0] == "value" and told[1] in self._known else told
