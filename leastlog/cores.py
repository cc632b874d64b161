"""Cores: what follows from all conditions of a region but the NonZero ones."""

from leastlog.amounts import Amount
from leastlog.conditions import Negative, NonPositive, Zero
from leastlog.rows import CONSTANT, share, symbols_of
from leastlog.simplex import AIM, Tableau


class Core:
    """The core of a list of conditions.

    Its conditions have their indexes as marks. A condition that is not NonZero is STUCK if its form is
    0 at all points at which no form of these conditions is above 0, and those of Zero ones are 0.
    """

    def __init__(self, conditions):
        self._conditions = conditions
        self._tableau = Tableau()
        self._stuck = {}
        self._spots = []
        self._clash = self._first_clash()

    def clash(self):
        """Weights by which the core is empty, None if it is not."""
        return None if self._clash is None else list(self._clash)

    def is_stuck(self, index):
        """Whether the condition is stuck, for a core that is not empty."""
        return index in self._stuck

    def spot(self, symbols):
        """A point with these symbols of a core that is not empty, at which only stuck forms are 0."""
        total = {symbol: Amount(0) for symbol in symbols}
        for point in self._spots:
            for symbol in point:
                total[symbol] = total[symbol] + point[symbol]
        return {symbol: total[symbol].over(len(self._spots)) for symbol in symbols}

    def bound_weights(self, form):
        """Weights by which the form is not above 0 in a core that is not empty, None if it is above 0 somewhere."""
        # A query must not depend on earlier ones, so it moves a clone.
        tableau = self._tableau.clone()
        row = tableau.aimed(form)
        if symbols_of(row):
            return None
        row, ray = tableau.climb(row)
        if ray is not None or row.get(CONSTANT, 0) > 0:
            return None
        return [-share(row, mark, AIM) for mark in range(len(self._conditions))]

    def _first_clash(self):
        row = self._entered()
        if row is not None:
            return [share(row, mark, CONSTANT) for mark in range(len(self._conditions))]
        return self._spread()

    def _entered(self):
        """Enters all conditions; returns a row that cannot hold, or None."""
        for mark, condition in enumerate(self._conditions):
            if isinstance(condition, Zero):
                self._stuck[mark] = True
                row = self._tableau.add_fixed(condition.form, mark)
                if row is not None:
                    return row
        for mark, condition in enumerate(self._conditions):
            if isinstance(condition, (Negative, NonPositive)):
                row = self._tableau.add_bound(condition.form, mark)
                if row is not None:
                    return row
        return None

    def _spread(self):
        """Finds spots until each slack that can be above 0 is so at one of them; the others are stuck.

        Returns weights by which the core is empty, if a stuck form has to be below 0.
        """
        slacks = self._take_spot()
        open_marks = [mark for mark in self._bounded_marks() if mark not in slacks]
        while open_marks:
            row, ray = self._tableau.climb(self._tableau.aimed_at_slacks(open_marks))
            if ray is None and CONSTANT not in row:
                return self._all_stuck(open_marks, row)
            slacks = self._take_spot()
            open_marks = [mark for mark in open_marks if mark not in slacks]
        return None

    def _take_spot(self):
        slacks = self._tableau.slacks()
        self._spots.append(self._tableau.point_at(slacks))
        return slacks

    def _bounded_marks(self):
        return [mark for mark, part in enumerate(self._conditions) if isinstance(part, (Negative, NonPositive))]

    def _all_stuck(self, marks, row):
        """Notes that these slacks are 0, as the row proves, which no slack can raise."""
        for mark in marks:
            self._stuck[mark] = True
        if not any([isinstance(self._conditions[mark], Negative) for mark in marks]):
            return None
        weights = [-Amount(row.get(mark, 0)) for mark in range(len(self._conditions))]
        for mark in marks:
            weights[mark] = weights[mark] + row[AIM]
        return weights
