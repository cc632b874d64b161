"""Rows solved for different symbols."""

from leastlog.amounts import Amount
from leastlog.rows import CONSTANT, cleared, row_of, symbols_of


class Echelon:
    """Rows of forms, each solved for a symbol, its pivot, that no other row has."""

    def __init__(self):
        self._solved = {}

    def reduced(self, row):
        """The row without the pivots: the row of a form that differs by a sum of the forms entered."""
        for pivot in symbols_of(row):
            if pivot in self._solved:
                row = cleared(row, self._solved[pivot], pivot)
        return row

    def enter(self, form, mark=None):
        """Enters a form; returns its reduced row, which has symbols exactly if the form was not told."""
        row = self.reduced(row_of(form, mark))
        symbols = symbols_of(row)
        if symbols:
            pivot = symbols[0]
            for other in list(self._solved):
                self._solved[other] = cleared(self._solved[other], row, pivot)
            self._solved[pivot] = row
        return row

    def pivots(self):
        """The sorted list of the symbols for which the rows are solved."""
        return sorted(self._solved)

    def pivot_values(self, amounts):
        """The amounts of the pivots that follow from those of other symbols and of minus the forms of marks.

        Symbols and marks that have no amount count as 0.
        """
        found = {}
        for pivot in sorted(self._solved):
            row = self._solved[pivot]
            total = Amount(row.get(CONSTANT, 0))
            for key in amounts:
                if key in row:
                    total = total + amounts[key] * row[key]
            found[pivot] = -total.over(row[pivot])
        return found
