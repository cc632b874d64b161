"""Entries of journals as records."""

from leastlog.kinds import is_whole
from leastlog.literals import natural_in

LONGEST_NUMBER = 9

# What stands in place of pairs if there are none.
NO_PAIRS = "-"


def entry_record(place, pairs, payload):
    """The record of an entry."""
    named = ",".join([f"{lane}.{at}" for lane, at in pairs]) if pairs else NO_PAIRS
    return f"{place} {named} {payload}"


def read_entry(lane, record):
    """The entry of a lane with this record; None if there is none."""
    first, _, rest = record.partition(" ")
    named, _, payload = rest.partition(" ")
    place = number_in(first)
    pairs = [] if named == NO_PAIRS else [pair_in(word) for word in named.split(",")]
    if place is None or None in pairs:
        return None
    # Whatever is not written like this, such as pairs in another sequence, is no entry.
    entry = (lane, place, tuple(sorted({pair: True for pair in pairs})), payload)
    is_right = entry_record(place, entry[2], payload) == record and not any([pair[0] == lane for pair in pairs])
    return entry if is_right else None


def pair_in(word):
    """The tuple (lane, place) with this text, or None."""
    lane, _, place = word.partition(".")
    pair = (number_in(lane), number_in(place))
    return None if None in pair else pair


def number_in(word):
    """The number of at most nine digits with this text, or None."""
    return natural_in(word) if len(word) <= LONGEST_NUMBER else None


def is_spot(value):
    """Whether any value is a tuple of two integers."""
    return isinstance(value, tuple) and len(value) == 2 and is_whole(value[0]) and is_whole(value[1])
