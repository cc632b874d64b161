"""What several tests need."""

from leastlog.amounts import Amount
from leastlog.forms import Form

# Values of many kinds that are no integers; the tests add what else is wrong in their place.
ODD_VALUES = (True, False, None, "", "1", "a", b"1", [], [1], (), (1,), {}, {"a": 1}, object(), Amount, Form)


def same(one, other):
    """Whether two values are equal, with True and 1 kept apart, also inside."""
    if isinstance(one, bool) or isinstance(other, bool):
        return one is other
    if isinstance(one, (list, tuple)) and isinstance(other, (list, tuple)):
        alike = type(one) is type(other) and len(one) == len(other)
        return alike and all(same(x, y) for x, y in zip(one, other))
    if isinstance(one, dict) and isinstance(other, dict):
        return list(one) == list(other) and all(same(one[key], other[key]) for key in one)
    return type(one) is type(other) and one == other


def check_same(case, found, expected):
    """Fails unless both values are the same."""
    case.assertTrue(same(found, expected), f"{found!r} is not {expected!r}")


def check_error(case, error, attributes, function, *arguments, **options):
    """Fails unless the call raises exactly this error with these attributes."""
    with case.assertRaises(error) as caught:
        function(*arguments, **options)
    case.assertIs(type(caught.exception), error)
    for name, value in attributes.items():
        found = getattr(caught.exception, name)
        case.assertTrue(found is value or same(found, value), f"{name} is {found!r}, not {value!r}")


def amount(text):
    """The amount with this text."""
    top, _, bottom = text.partition("/")
    return Amount(int(top), int(bottom or "1"))


def form(constant=0, **weights):
    """A form whose amounts are given as integers or texts."""
    read = {symbol: amount(str(weight)) for symbol, weight in weights.items()}
    return Form(amount(str(constant)), read)
