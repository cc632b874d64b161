"""Amounts: fractions in lowest terms."""

from math import gcd

from leastlog.errors import InvalidAmount
from leastlog.failures import ZeroDivisor
from leastlog.kinds import is_whole


class Amount:
    """The fraction top / bottom. Amounts never change."""

    def __init__(self, top, bottom=1):
        if not is_whole(top):
            raise InvalidAmount(top)
        if not is_whole(bottom) or bottom == 0:
            raise InvalidAmount(bottom)
        common = gcd(top, bottom)
        if bottom < 0:
            common = -common
        self._top = top // common
        self._bottom = bottom // common

    @property
    def top(self):
        """The number above the line, which has the sign."""
        return self._top

    @property
    def bottom(self):
        """The number below the line, at least 1."""
        return self._bottom

    @property
    def sign(self):
        """-1, 0 or 1."""
        if self._top == 0:
            return 0
        return 1 if self._top > 0 else -1

    def __add__(self, other):
        other = amount_of(other)
        return Amount(self._top * other.bottom + other.top * self._bottom, self._bottom * other.bottom)

    def __sub__(self, other):
        other = amount_of(other)
        return Amount(self._top * other.bottom - other.top * self._bottom, self._bottom * other.bottom)

    def __mul__(self, other):
        other = amount_of(other)
        return Amount(self._top * other.top, self._bottom * other.bottom)

    def __neg__(self):
        return Amount(-self._top, self._bottom)

    def over(self, divisor):
        """The quotient by a divisor other than 0."""
        other = amount_of(divisor)
        if other.top == 0:
            raise ZeroDivisor("an amount is divided by 0")
        return Amount(self._top * other.bottom, self._bottom * other.top)

    def below(self, other):
        """Whether this amount is less than the other one."""
        other = amount_of(other)
        return self._top * other.bottom < other.top * self._bottom

    def __eq__(self, other):
        return isinstance(other, Amount) and self._top == other._top and self._bottom == other._bottom

    def __str__(self):
        if self._bottom == 1:
            return str(self._top)
        return f"{self._top}/{self._bottom}"

    def __repr__(self):
        return f"Amount({self._top}, {self._bottom})"


def is_amount(value):
    """Whether a value is an Amount or an integer, which stands for one."""
    return isinstance(value, Amount) or is_whole(value)


def amount_of(value):
    """The Amount for which a value stands."""
    return value if isinstance(value, Amount) else Amount(value)
