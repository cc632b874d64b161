"""The pass that writes forms and what stops show over leaves."""

from leastlog.amounts import Amount
from leastlog.coderows import merged
from leastlog.rewriting import Rewriter


class Spreading(Rewriter):
    """Writes forms and what stops show over leaves, and leaves in the place of their copies."""

    def __init__(self):
        Rewriter.__init__(self)
        # The constants and the parts over leaves of the values that form rows set.
        self._sums = {}

    def replacing(self, row):
        """The row over leaves."""
        if row[0] == "form":
            constant, parts = self._spread(row[2], row[3])
            self._sums[row[1]] = (constant, parts)
            if constant.sign == 0 and len(parts) == 1 and parts[0][1] == Amount(1):
                self.put_in_place([row[1]], [parts[0][0]])
            return [("form", row[1], constant, parts)]
        if row[0] == "stop":
            shown = [tuple([(variable, self._told(told)) for variable, told in frame]) for frame in row[2]]
            return [("stop", row[1], tuple(shown))]
        return [self.with_names(row)]

    def _told(self, told):
        return ("form", *self._spread(told[1], told[2])) if told[0] == "form" else told

    def _spread(self, constant, parts):
        """The constant and the parts over leaves of a sum."""
        pairs = []
        for value, weight in parts:
            if value in self._sums:
                more, inner = self._sums[value]
                constant = constant + more * weight
                pairs.extend([(leaf, times * weight) for leaf, times in inner])
            else:
                pairs.append((value, weight))
        return constant, merged(pairs)
