"""Orders of runs: which ones let all runs read what they read in their history."""

from leastlog.errors import InvalidOrder
from leastlog.failures import NotNamed, UnknownRun
from leastlog.histories import Naming, Versions, check_history
from leastlog.kinds import is_list, is_whole


def named_pairs(history):
    """For each run the sorted list of the runs that its entry names."""
    check_history(history)
    naming = Naming(history)
    return [naming.named_by(run) for run in range(len(history))]


def keeps(history, order):
    """Whether any value is an order of all runs that keeps the history."""
    check_history(history)
    if not is_order(order, history) or len(order) != len(history):
        return False
    naming = Naming(history)
    done = {}
    for run in order:
        previous = naming.previous_of(run)
        required = naming.named_by(run) if previous is None else [previous, *naming.named_by(run)]
        if not all([other in done for other in required]):
            return False
        done[run] = True
    return True


def exchanged(history, run, other):
    """The order of the runs up to a run in which it stands ahead of another one that its entry names."""
    check_history(history)
    check_run(history, run)
    check_run(history, other)
    naming = Naming(history)
    if other not in naming.named_by(run):
        raise NotNamed(run, other)
    below = list(range(other))
    between = list(range(other + 1, run))
    free = [one for one in between if not naming.is_ahead(other, one)]
    bound = [one for one in between if naming.is_ahead(other, one)]
    return [*below, *free, run, other, *bound]


def difference(history, order):
    """The first read, or else the first last version, that is another one in an order than in the history; or None."""
    check_history(history)
    if not is_order(order, history):
        raise InvalidOrder(order)
    as_ended = Versions(history, list(range(len(order))))
    as_ordered = Versions(history, order)
    for run in range(len(order)):
        expected = as_ended.read_by(run)
        for cell, version in as_ordered.read_by(run).items():
            if version != expected[cell]:
                return "read", run, cell, version
    for cell in as_ended.written():
        if as_ordered.last_of(cell) != as_ended.last_of(cell):
            return "last", cell, as_ordered.last_of(cell)
    return None


def check_run(history, run):
    """Raises UnknownRun for any value that is no run of the history."""
    if not is_whole(run) or not 0 <= run < len(history):
        raise UnknownRun(run)


def is_order(order, history):
    """Whether any value is a list that contains each run below some number once."""
    if not is_list(order) or len(order) > len(history):
        return False
    return all([is_whole(run) for run in order]) and sorted(order) == list(range(len(order)))
