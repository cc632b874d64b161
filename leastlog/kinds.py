"""Tests of the kinds of values, for any value."""

LETTERS = "abcdefghijklmnopqrstuvwxyz"
DIGITS = "0123456789"
LONGEST_NAME = 8


def is_whole(value):
    """Whether a value is an INTEGER: True and False are none."""
    return isinstance(value, int) and not isinstance(value, bool)


def is_list(value):
    """Whether a value may be passed as a list."""
    return isinstance(value, (list, tuple))


def has_only(text, characters):
    """Whether all characters of a string are among these."""
    return not text.strip(characters)


def is_name(value):
    """Whether a value is a NAME."""
    return isinstance(value, str) and 1 <= len(value) <= LONGEST_NAME and has_only(value, LETTERS)


def alike(one, other):
    """Whether two values are equal, where True is not equal to 1, also inside."""
    if isinstance(one, bool) or isinstance(other, bool):
        return isinstance(one, bool) and isinstance(other, bool) and one == other
    if isinstance(one, dict) and isinstance(other, dict):
        return len(one) == len(other) and all([key in other and alike(one[key], other[key]) for key in one])
    if is_list(one) and isinstance(one, list) == isinstance(other, list) and is_list(other):
        return len(one) == len(other) and all([alike(part, by) for part, by in zip(one, other)])
    return one == other
