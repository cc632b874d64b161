"""Rewriting the rows of a code one after another, while some values come to stand for others."""

from leastlog.coderows import lists_of, renamed, with_lists
from leastlog.codes import Code


class Rewriter:
    """What the passes that rewrite rows share; each one says what comes in the place of a row."""

    def __init__(self):
        # The values in the place of others.
        self._names = {}

    def code(self, code):
        """The rewritten code."""
        return Code(code.procedure_text, code.parameters, self.rewritten(code.rows))

    def rewritten(self, rows):
        """The tuple of the rows in the place of those of a list."""
        found = []
        for row in rows:
            found.extend(self.replacing(row))
        return tuple(found)

    def replacing(self, row):
        """The rows in the place of a row."""
        return [self.with_names(row)]

    def with_names(self, row):
        """The row with its lists rewritten, and with other values in the place of those that have some."""
        lists = [self.rewritten(inner) for inner in lists_of(row)]
        return with_lists(renamed(row, self._names), lists)

    def value_for(self, value):
        """The value in the place of a value."""
        return self._names.get(value, value)

    def put_in_place(self, values, others):
        """Lets others, which are rewritten, stand in the place of values."""
        for value, other in zip(values, others):
            self._names[value] = self.value_for(other)
