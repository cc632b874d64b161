"""Calls in line, and codes that went through passes."""

from leastlog.coderows import renamed_rows
from leastlog.codes import unused_value, values_set_in
from leastlog.failures import UnknownPass
from leastlog.loop_passes import hoist
from leastlog.passes import drop_dead, fold, least_asked, share_equal, spread
from leastlog.rewriting import Rewriter
from leastlog.translating import book_of

PASSES = {
    "spread": spread, "fold": fold, "share": share_equal, "drop": drop_dead, "ask": least_asked, "hoist": hoist,
}
IN_LINE = "inline"


def inline(code, book):
    """The code with codes of the book in the place of calls."""
    return Inlining(code, book).code(code)


def optimized(code, *names, book=None):
    """The code after passes in sequence; without a book there is nothing to put in line."""
    check_names(names)
    for name in names:
        if name != IN_LINE:
            change = PASSES[name]
            code = change(code)
        elif book is not None:
            code = inline(code, book)
    return code


def optimized_book(program, *names):
    """The codes of all procedures of a program after passes in sequence."""
    check_names(names)
    book = book_of(program)
    return {text: optimized(code, *names, book=book) for text, code in book.items()}


def check_names(names):
    """Raises UnknownPass for the first value that is not the name of a pass."""
    for name in names:
        if not is_pass(name):
            raise UnknownPass(name)


def is_pass(value):
    """Whether any value is the name of a pass, or that of calls in line."""
    return isinstance(value, str) and (value == IN_LINE or value in PASSES)


class Inlining(Rewriter):
    """Puts codes of a book in the place of calls, and codes in the place of the calls of these.

    A SIGHT is a tuple (frames, shown) of a stop row.
    """

    def __init__(self, code, book):
        Rewriter.__init__(self)
        self._book = book
        self._unused = unused_value(code)
        # The sight of the last stop, and that which stops have ahead of their own.
        self._last = ((), ())
        self._ahead = ((), ())
        # The calls in whose place rows stand now: the values of their results, and what was ahead of stops before.
        self._calls = []

    def rewritten(self, rows):
        """The rows of a list; behind it the last stop is that ahead of it."""
        outer = self._last
        found = []
        todo = list(reversed(rows))
        while todo:
            row = todo.pop()
            if row[0] == "call" and row[2] in self._book:
                todo.extend(list(reversed(self._begin_call(row))))
            elif row[0] == "give" and self._calls:
                self._end_call(row)
            else:
                found.append(self._in_sight(self.with_names(row)))
        self._last = outer
        return tuple(found)

    def _begin_call(self, row):
        """The rows in the place of a call, with unused values for all that they set; the last one ends it."""
        code = self._book[row[2]]
        names = {}
        for value in values_set_in(code.rows):
            names[value] = self._unused
            self._unused = self._unused + 1
        for (value, _), argument in zip(code.parameters, row[3]):
            names[value] = self.value_for(argument)
        self._calls.append(([value for value, _ in row[1]], self._ahead))
        self._ahead = self._last
        return renamed_rows(code.rows, names)

    def _end_call(self, row):
        results, ahead = self._calls.pop()
        self.put_in_place(results, row[1])
        self._last = self._ahead
        self._ahead = ahead

    def _in_sight(self, row):
        """The row, a stop with the sight of the calls ahead of its own."""
        if row[0] != "stop":
            return row
        self._last = ((*self._ahead[0], *row[1]), (*self._ahead[1], *row[2]))
        return ("stop", *self._last)
