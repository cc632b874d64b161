"""Lanes: how many there may be, and which ones there are."""

from leastlog.errors import InvalidCount
from leastlog.failures import UnknownLane
from leastlog.histories import MOST_LANES
from leastlog.kinds import is_whole


def check_count(value):
    """Raises InvalidCount for any value that is no number of lanes."""
    if not is_whole(value) or not 1 <= value <= MOST_LANES:
        raise InvalidCount(value)


def is_lane(value, lanes):
    """Whether any value is one of so many lanes."""
    return is_whole(value) and 0 <= value < lanes


def check_lane(value, lanes):
    """Raises UnknownLane for any value that is none of so many lanes."""
    if not is_lane(value, lanes):
        raise UnknownLane(value)
