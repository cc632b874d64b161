"""Interiors: the inner points of a region whose core is not empty."""

from leastlog.amounts import Amount
from leastlog.between import simplest_within
from leastlog.conditions import NonZero
from leastlog.rows import CONSTANT, is_nothing, row_of, symbols_of
from leastlog.systems import solved, symbols_in


class Interior:
    """The inner points of some conditions, told by their core."""

    def __init__(self, conditions, core):
        self._conditions = conditions
        self._core = core
        self._flat = [condition.form for index, condition in enumerate(conditions) if core.is_stuck(index)]
        self._echelon = solved(self._flat)
        self._dead_end = self._first_dead_end()
        self._inner = None

    def flat(self):
        """The forms that are 0 at all points of the core because of conditions."""
        return list(self._flat)

    def dead_end(self):
        """The index of the first NonZero condition whose form is 0 at all points of the core, or None."""
        return self._dead_end

    def point(self):
        """An inner point with exactly the symbols of the conditions; there is one if there is no dead end."""
        if self._inner is None:
            self._inner = self._found_point()
        return dict(self._inner)

    def pair_along(self, step, symbols):
        """Two inner points with these symbols, of which the second is a multiple of the step further on."""
        inner = self.point()
        start = {symbol: inner.get(symbol, Amount(0)) for symbol in symbols}
        limits = [(Amount(0), -1)]
        for condition in self._loose_conditions():
            pace = slope(condition.form, step)
            if pace.sign:
                limits.append((-condition.form.value_at(start).over(pace), way_of(condition, pace.sign)))
        times = simplest_within(limits)
        return start, {symbol: start[symbol] + times * step.get(symbol, 0) for symbol in symbols}

    def _loose_conditions(self):
        """The conditions that say more than the flat."""
        return [condition for index, condition in enumerate(self._conditions) if not self._core.is_stuck(index)]

    def _first_dead_end(self):
        for index, condition in enumerate(self._conditions):
            if isinstance(condition, NonZero) and is_nothing(self._echelon.reduced(row_of(condition.form))):
                return index
        return None

    def _found_point(self):
        """Moves a spot of the core to amounts with small numbers, symbol by symbol, and off the NonZero forms."""
        symbols = symbols_in([condition.form for condition in self._conditions])
        pivots = self._echelon.pivots()
        spot = self._core.spot(symbols)
        amounts = {symbol: spot[symbol] for symbol in symbols if symbol not in pivots}
        loose = self._loose_conditions()
        guards = [Guard(condition, self._echelon.reduced(row_of(condition.form)), amounts) for condition in loose]
        for symbol in list(amounts):
            near = [guard for guard in guards if guard.has(symbol)]
            amount = simplest_within([guard.limit(symbol, amounts[symbol]) for guard in near])
            for guard in near:
                guard.move(symbol, amount - amounts[symbol])
            amounts[symbol] = amount
        pivot_amounts = self._echelon.pivot_values(amounts)
        return {symbol: amounts[symbol] if symbol in amounts else pivot_amounts[symbol] for symbol in symbols}


class Guard:
    """What a condition says of symbols that the flat leaves free, and the value of its row as they move."""

    def __init__(self, condition, row, amounts):
        self._condition = condition
        self._row = row
        self._level = Amount(row.get(CONSTANT, 0))
        for symbol in symbols_of(row):
            self._level = self._level + amounts[symbol] * row[symbol]

    def has(self, symbol):
        """Whether the row depends on the symbol."""
        return symbol in self._row

    def limit(self, symbol, amount):
        """The amount of the symbol at which the row is 0, and its way, if the symbol now has this amount."""
        return amount - self._level.over(self._row[symbol]), way_of(self._condition, self._row[symbol])

    def move(self, symbol, change):
        """Takes note that the amount of a symbol has changed."""
        self._level = self._level + change * self._row[symbol]


def way_of(condition, pace):
    """The way of the limit that a condition sets, if its form has this pace."""
    if isinstance(condition, NonZero):
        return 0
    return 1 if pace > 0 else -1


def slope(form, step):
    """How much the form goes up along a step."""
    total = Amount(0)
    for symbol, weight in form.terms():
        if symbol in step:
            total = total + weight * step[symbol]
    return total
