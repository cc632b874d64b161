"""Forms: a constant plus symbols with weights."""

from leastlog.amounts import Amount, amount_of, is_amount
from leastlog.errors import InvalidForm, InvalidPoint, InvalidSymbol, InvalidTerms
from leastlog.failures import UnknownSymbol
from leastlog.kinds import DIGITS, LETTERS, has_only

LONGEST_SYMBOL = 24


def is_symbol(value):
    """Whether any value is a symbol."""
    if not isinstance(value, str) or not 1 <= len(value) <= LONGEST_SYMBOL:
        return False
    return has_only(value, LETTERS + DIGITS + ".") and not has_only(value, DIGITS)


class Form:
    """A constant plus terms, each a symbol times its weight. Forms never change."""

    def __init__(self, constant=0, weights=None):
        self._constant = amount_of(constant)
        given = {} if weights is None else weights
        if not maps_symbols_to_amounts(given):
            raise InvalidTerms(weights)
        amounts = {symbol: amount_of(given[symbol]) for symbol in sorted(given)}
        self._weights = {symbol: amounts[symbol] for symbol in amounts if amounts[symbol].sign}

    @classmethod
    def of(cls, constant=0, **weights):
        """The form with this constant, and with the options as its terms."""
        amount_of(constant)
        for symbol in sorted(weights):
            if not is_symbol(symbol):
                raise InvalidSymbol(symbol)
            amount_of(weights[symbol])
        return cls(constant, weights)

    @staticmethod
    def symbol(symbol):
        """The form that is this symbol alone."""
        if not is_symbol(symbol):
            raise InvalidSymbol(symbol)
        return Form(0, {symbol: 1})

    @property
    def constant_part(self):
        """The constant, an Amount."""
        return self._constant

    @property
    def is_constant(self):
        """Whether there are no terms."""
        return len(self._weights) == 0

    @property
    def linear_part(self):
        """The form without its constant."""
        return Form(0, self._weights)

    def terms(self):
        """The list of tuples (symbol, weight), by ascending symbols."""
        return list(self._weights.items())

    def symbols(self):
        """The sorted list of the symbols of the terms."""
        return list(self._weights)

    def weight(self, symbol):
        """The weight of a symbol, 0 if it has no term."""
        if not is_symbol(symbol):
            raise InvalidSymbol(symbol)
        return self._weights.get(symbol, Amount(0))

    def value_at(self, point):
        """The value of the form at a point that has at least its symbols."""
        if not maps_symbols_to_amounts(point):
            raise InvalidPoint(point)
        total = self._constant
        for symbol, weight in self._weights.items():
            if symbol not in point:
                raise UnknownSymbol(symbol)
            total = total + weight * point[symbol]
        return total

    def replaced(self, forms):
        """The form with other forms or amounts in place of symbols, all at the same time."""
        if not maps_symbols_to_forms(forms):
            raise InvalidPoint(forms)
        kept = {symbol: self._weights[symbol] for symbol in self._weights if symbol not in forms}
        total = Form(self._constant, kept)
        for symbol, weight in self._weights.items():
            if symbol in forms:
                total = total + form_of(forms[symbol]) * weight
        return total

    def __add__(self, other):
        other = form_of(other)
        weights = dict(self._weights)
        for symbol, weight in other._weights.items():
            weights[symbol] = weights[symbol] + weight if symbol in weights else weight
        return Form(self._constant + other._constant, weights)

    def __sub__(self, other):
        return self + -form_of(other)

    def __mul__(self, other):
        factor = amount_of(other)
        weights = {symbol: self._weights[symbol] * factor for symbol in self._weights}
        return Form(self._constant * factor, weights)

    def __neg__(self):
        return self * -1

    def over(self, divisor):
        """The form times 1 / divisor, for a divisor other than 0."""
        return self * Amount(1).over(divisor)

    def __eq__(self, other):
        return isinstance(other, Form) and self._constant == other._constant and self._weights == other._weights

    def __str__(self):
        return str(form_text(self._constant, self._weights))

    def __repr__(self):
        return f"Form({form_text(self._constant, self._weights)})"


def maps_symbols_to_amounts(value):
    """Whether any value is a dict from symbols to amounts."""
    if not isinstance(value, dict):
        return False
    return all([is_symbol(key) and is_amount(value[key]) for key in value])


def maps_symbols_to_forms(value):
    """Whether any value is a dict from symbols to forms or amounts."""
    if not isinstance(value, dict):
        return False
    return all([is_symbol(key) and is_form_or_amount(value[key]) for key in value])


def is_form_or_amount(value):
    """Whether a value is a form, or an amount, which stands for a constant form."""
    return isinstance(value, Form) or is_amount(value)


def form_of(value):
    """The Form for which a value stands."""
    if isinstance(value, Form):
        return value
    if not is_amount(value):
        raise InvalidForm(value)
    return Form(value)


def form_text(constant, weights):
    """The text of a form, the first part with its sign directly ahead of it."""
    constants = [(constant.sign, unsigned_text(constant))] if constant.sign or not weights else []
    parts = [*constants, *[(weight.sign, term_text(symbol, weight)) for symbol, weight in weights.items()]]
    sign, text = parts[0]
    text = f"-{text}" if sign < 0 else text
    for sign, part in parts[1:]:
        text = f"{text} - {part}" if sign < 0 else f"{text} + {part}"
    return text


def term_text(symbol, weight):
    """The text of a term without the sign of its weight."""
    factor = unsigned_text(weight)
    return symbol if factor == "1" else f"{factor} {symbol}"


def unsigned_text(amount):
    """The text of an amount without its sign."""
    return str(-amount) if amount.sign < 0 else str(amount)
