"""Amounts with small numbers between others. None is no limit."""

from leastlog.amounts import Amount


def simplest_within(limits):
    """An amount with small numbers within limits, tuples (amount, way).

    It is below those whose way is 1, above those whose way is -1, and none of those whose way is 0.
    """
    low = high = None
    for amount, way in limits:
        if way < 0 and (low is None or low.below(amount)):
            low = amount
        if way > 0 and (high is None or amount.below(high)):
            high = amount
    barred = [amount for amount, way in limits if way == 0]
    found = simplest_inside(low, high)
    while any([found == amount for amount in barred]):
        found = simplest_inside(found, high)
    return found


def simplest_inside(low, high):
    """The amount with the smallest bottom above low and below high, of these the one next to 0."""
    if low is not None and low.sign >= 0:
        return simplest_above(low, high)
    if high is not None and high.sign <= 0:
        return -simplest_above(-high, None if low is None else -low)
    return Amount(0)


def simplest_above(low, high):
    """As simplest_inside, for a low that is at least 0."""
    wholes = []
    while True:
        whole = low.top // low.bottom
        if high is None or Amount(whole + 1).below(high):
            break
        # No integer lies between them: what is above the whole part is the inverse of a simpler case.
        wholes.append(whole)
        rest = low - whole
        low, high = Amount(1).over(high - whole), None if rest.sign == 0 else Amount(1).over(rest)
    found = Amount(whole + 1)
    for earlier in reversed(wholes):
        found = Amount(1).over(found) + earlier
    return found
