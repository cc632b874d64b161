"""Rows: forms with whole weights, which know from which forms they were made.

A row is a dict without zeros. Its keys are symbols, CONSTANT for the constant, and MARKS: integers,
one for each form. The part of the symbols and the constant is the sum of the forms of the marks,
each times the number at its mark. Rows may also be made without marks, where it does not matter from
which forms they come. Whole numbers are much faster here than amounts.
"""

from math import gcd, lcm

from leastlog.amounts import Amount

# No symbol is the empty string.
CONSTANT = ""


def row_of(form, mark=None):
    """The smallest row of a form, with this mark, or without one."""
    scale = form.constant_part.bottom
    for _, weight in form.terms():
        scale = lcm(scale, weight.bottom)
    row = {symbol: weight.top * (scale // weight.bottom) for symbol, weight in form.terms()}
    constant = form.constant_part
    if constant.top:
        row[CONSTANT] = constant.top * (scale // constant.bottom)
    if mark is None:
        return primitive(row)
    row[mark] = scale
    return row


def symbols_of(row):
    """The sorted list of the symbols of a row."""
    return sorted([key for key in row if isinstance(key, str) and key != CONSTANT])


def marks_of(row):
    """The sorted list of the marks of a row."""
    return sorted([key for key in row if isinstance(key, int)])


def is_absurd(row):
    """Whether the row is a constant other than 0, which it cannot be where its forms are 0."""
    return CONSTANT in row and not symbols_of(row)


def is_nothing(row):
    """Whether the row is 0 everywhere."""
    return CONSTANT not in row and not symbols_of(row)


def primitive(row):
    """The row divided by the greatest number that divides all of it."""
    common = 0
    for key in row:
        common = gcd(common, row[key])
        if common == 1:
            return row
    return {key: row[key] // common for key in row}


def cleared(row, other, key):
    """The row without this key: a positive multiple of it plus a multiple of the other row."""
    worth = row.get(key, 0)
    if worth == 0:
        return row
    pivot = other[key]
    common = gcd(worth, pivot)
    factor = abs(pivot) // common
    times = -worth // common if pivot > 0 else worth // common
    total = {at: row[at] * factor for at in row}
    for at in other:
        total[at] = total.get(at, 0) + other[at] * times
    return primitive({at: total[at] for at in total if total[at]})


def share(row, key, unit):
    """What is at one key of a row for each unit at another one."""
    return Amount(row.get(key, 0), row[unit])
