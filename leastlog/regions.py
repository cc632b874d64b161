"""Regions: the points at which all conditions of a list hold."""

from leastlog.conditions import Negative, NonPositive, NonZero, Zero
from leastlog.cores import Core
from leastlog.errors import InvalidCondition
from leastlog.failures import Impossible
from leastlog.forms import maps_symbols_to_amounts
from leastlog.interiors import Interior
from leastlog.kinds import is_list
from leastlog.systems import check_form, check_forms, direction, symbols_in


class Region:
    """A list of conditions. Regions never change."""

    def __init__(self, conditions=()):
        check_conditions(conditions)
        self._conditions = list(conditions)
        # Both are computed when they are first asked for.
        self._core = None
        self._interior = None

    def conditions(self):
        """The list of the conditions."""
        return list(self._conditions)

    def symbols(self):
        """The list of the symbols of the conditions, ascending."""
        return symbols_in([condition.form for condition in self._conditions])

    def joined(self, *conditions):
        """The region with these conditions behind its own."""
        check_conditions(conditions)
        return Region([*self._conditions, *conditions])

    def has_point(self, value):
        """Whether any value is one of the points of the region."""
        if not maps_symbols_to_amounts(value) or not all([symbol in value for symbol in self.symbols()]):
            return False
        return all([condition.holds_at(value) for condition in self._conditions])

    def is_possible(self):
        """Whether the region has a point."""
        return self._found_core().clash() is None and self._found_interior().dead_end() is None

    def inner_point(self):
        """An inner point with exactly the symbols of the region; None if it is not possible."""
        if not self.is_possible():
            return None
        return self._found_interior().point()

    def forced(self):
        """The list of the indexes of the forced conditions."""
        self._require_possible()
        return [index for index in range(len(self._conditions)) if self._is_forced(index)]

    def flat(self):
        """The forms of the Zero conditions and of the forced ones."""
        self._require_possible()
        return self._found_interior().flat()

    def refutation(self):
        """A proof that the region is not possible; None if it is possible."""
        core = self._found_core()
        if core.clash() is not None:
            return "sum", core.clash()
        index = self._found_interior().dead_end()
        if index is None:
            return None
        form = self._conditions[index].form
        return "zero", index, core.bound_weights(form), core.bound_weights(-form)

    def bound_certificate(self, form):
        """Weights by which the form is not above 0 in the core; None if it is above 0 somewhere there."""
        check_form(form)
        core = self._found_core()
        if core.clash() is not None:
            raise Impossible("the core is empty")
        return core.bound_weights(form)

    def two_points(self, forms, form):
        """Two inner points at which the forms have the same values, but not the form; None if there are none."""
        check_forms(forms)
        check_form(form)
        self._require_possible()
        step = direction(form, forms, self.flat())
        if step is None:
            return None
        symbols = symbols_in([form, *forms, *[condition.form for condition in self._conditions]])
        return self._found_interior().pair_along(step, symbols)

    def _is_forced(self, index):
        return isinstance(self._conditions[index], NonPositive) and self._found_core().is_stuck(index)

    def _require_possible(self):
        if not self.is_possible():
            raise Impossible("the region has no point")

    def _found_core(self):
        if self._core is None:
            self._core = Core(self._conditions)
        return self._core

    def _found_interior(self):
        if self._interior is None:
            self._interior = Interior(self._conditions, self._found_core())
        return self._interior


def check_conditions(conditions):
    """Raises InvalidCondition for a value that is no list of conditions."""
    if not is_list(conditions):
        raise InvalidCondition(None)
    for position, condition in enumerate(conditions):
        if not isinstance(condition, (Zero, NonZero, Negative, NonPositive)):
            raise InvalidCondition(position)
