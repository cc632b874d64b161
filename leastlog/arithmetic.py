"""What amounts are in a run, and how its tests are decided."""

from leastlog.conditions import Negative, NonPositive, NonZero, Zero
from leastlog.errors import InvalidPath
from leastlog.forms import Form


class PlainArithmetic:
    """Amounts are Amounts, which decide the tests."""

    def __init__(self):
        self._truths = []

    def clone(self):
        """An independent copy with the same tests so far."""
        other = PlainArithmetic()
        other._truths = list(self._truths)
        return other

    def made(self, amount):
        """What an Amount is in this run."""
        return amount

    def decide(self, word, first, second):
        """The truth of a test."""
        truth = first == second if word == "same" else first.below(second)
        self._truths.append(truth)
        return truth

    def truths(self):
        """The list of the truths of the tests so far."""
        return list(self._truths)


class FormArithmetic:
    """Amounts are Forms; a path tells the truths of the tests, each of which gives a condition."""

    def __init__(self, path):
        self._given = list(path)
        self._conditions = []

    def clone(self):
        """An independent copy with the same tests so far."""
        other = FormArithmetic(self._given)
        other._conditions = list(self._conditions)
        return other

    def made(self, amount):
        """What an Amount is in this run."""
        return Form(amount)

    def decide(self, word, first, second):
        """The truth that the path has for a test; InvalidPath if it has none, or a wrong one."""
        position = len(self._conditions)
        if position >= len(self._given):
            raise InvalidPath(position)
        truth = self._given[position]
        condition = condition_of(word, first - second, truth)
        if condition.form.is_constant and not condition.holds_at({}):
            raise InvalidPath(position)
        self._conditions.append(condition)
        return truth

    def truths(self):
        """The list of the truths of the tests so far."""
        return self._given[:len(self._conditions)]

    def conditions(self):
        """The list of the conditions of the tests so far."""
        return list(self._conditions)

    def check_spent(self):
        """Raises InvalidPath if the path has more truths than there were tests."""
        if len(self._conditions) < len(self._given):
            raise InvalidPath(len(self._conditions))


def condition_of(word, gap, truth):
    """The condition that a test gives; gap is the first amount less the second one."""
    if word == "same":
        return Zero(gap) if truth else NonZero(gap)
    return Negative(gap) if truth else NonPositive(-gap)
