"""Calls in line, and codes that went through passes."""

from leastlog.coderows import renamed_rows
from leastlog.codes import unused_value, values_set_in
from leastlog.failures import UnknownPass
from leastlog.loop_passes import hoist
from leastlog.passes import drop_dead, fold, least_asked, share_equal, spread
from leastlog.rewriting import Rewriter
from leastlog.translating import book_of

PASSES = {
    "spread": spread, "fold": fold, "share": share_equal, "drop": drop_dead, "ask": least_asked, "hoist": hoist,
}
IN_LINE = "inline"


def inline(code, book):
    """The code with codes of the book in the place of calls."""
    return Inlining(code, book).code(code)


def optimized(code, *names, book=None):
    """The code after passes in sequence; without a book there is nothing to put in line."""
    check_names(names)
    for name in names:
        if name != IN_LINE:
            change = PASSES[name]
            code = change(code)
        elif book is not None:
            code = inline(code, book)
    return code


def optimized_book(program, *names):
    """The codes of all procedures of a program after passes in sequence."""
    check_names(names)
    book = book_of(program)
    return {text: optimized(code, *names, book=book) for text, code in book.items()}


def check_names(names):
    """Raises UnknownPass for the first value that is not the name of a pass."""
    for name in names:
        if not isinstance(name, str) or name != IN_LINE and name not in PASSES:
            raise UnknownPass(name)


class Inlining(Rewriter):
    """Puts codes of a book in the place of calls.

    A SIGHT is a tuple (frames, shown) of a stop row.
    """

    def __init__(self, code, book):
        Rewriter.__init__(self)
        self._book = book
        self._unused = unused_value(code)
        # What stops have ahead of their own: the sight of the call in whose place they stand.
        self._ahead = ((), ())
        self._last = ((), ())

    def rewritten(self, rows):
        """The rows of a list; behind it the last stop is that ahead of it."""
        last = self._last
        found = super().rewritten(rows)
        self._last = last
        return found

    def replacing(self, row):
        """The row, or the rows of a code in the place of a call."""
        if row[0] == "call" and row[2] in self._book:
            return self._of_call(row)
        row = self.with_names(row)
        if row[0] != "stop":
            return [row]
        self._last = ((*self._ahead[0], *row[1]), (*self._ahead[1], *row[2]))
        return [("stop", *self._last)]

    def _of_call(self, row):
        code = self._book[row[2]]
        rows = self._renumbered(code, row[3])
        outer = self._ahead
        self._ahead = self._last
        found = self.rewritten(rows[:-1])
        self._ahead = outer
        self.put_in_place([value for value, _ in row[1]], rows[-1][1])
        return found

    def _renumbered(self, code, arguments):
        """The rows of a code with the arguments in place of its parameters, and unused values for all others."""
        names = {}
        for value in values_set_in(code.rows):
            names[value] = self._unused
            self._unused = self._unused + 1
        for (value, _), argument in zip(code.parameters, arguments):
            names[value] = self.value_for(argument)
        return renamed_rows(code.rows, names)
