"""Which values of a stretch are known at its stops by what is kept."""

from leastlog.errors import InvalidKeeps
from leastlog.kinds import is_list


def known(stretch, keeps, stop):
    """The ascending list of the values known at a stop."""
    check_keeps(stretch, keeps)
    stretch.check_stop(stop)
    return sorted(known_values(stretch, keeps)[stop])


def missing(stretch, keeps):
    """The first stop and there the least value that is asked and lost, as a tuple; None if the keeps are sufficient."""
    check_keeps(stretch, keeps)
    return first_lost(stretch, known_values(stretch, keeps))


def first_lost(stretch, known_at):
    """The first stop and there the least value that is asked and not among the values known there; or None."""
    for stop, values in enumerate(known_at):
        lost = [value for value in stretch.asked(stop) if value not in values]
        if lost:
            return stop, min(lost)
    return None


def known_values(stretch, keeps):
    """For each stop a dict with the values known there as its keys, in the order of setting."""
    kept = {(value, stop): True for value, stop in keeps}
    values = stretch.all_values()
    found = []
    for stop in range(len(stretch.stops())):
        ahead = found[-1] if found else {}
        here = {}
        for value in values:
            if not stretch.is_present(value, stop):
                break
            was_known = value in ahead or not stretch.is_present(value, stop - 1)
            operands = stretch.operands(value)
            is_computed = operands is not None and all([operand in here for operand in operands])
            if was_known and (stretch.is_live(value, stop) or (value, stop) in kept or is_computed):
                here[value] = True
        found.append(here)
    return found


def check_keeps(stretch, keeps):
    """Raises InvalidKeeps for any value that is not a list of keeps."""
    if not is_list(keeps):
        raise InvalidKeeps(None)
    seen = {}
    for position, keep in enumerate(keeps):
        if not is_keep(stretch, keep) or keep in seen:
            raise InvalidKeeps(position)
        seen[keep] = True


def is_keep(stretch, keep):
    """Whether any value is a tuple of a value and a stop at which it is present and not live."""
    return is_at_stop(stretch, keep) and not stretch.is_live(keep[0], keep[1])


def is_at_stop(stretch, keep):
    """Whether any value is a tuple of a value and a stop at which it is present."""
    if not isinstance(keep, tuple) or len(keep) != 2:
        return False
    return stretch.is_value(keep[0]) and stretch.is_stop(keep[1]) and stretch.is_present(keep[0], keep[1])
