"""What traces tell: of a whole run, or of one under way up to the stop at which it stands."""


def path_in(trace):
    """The list of the truths of the tests."""
    return [event[1] for event in trace if event[0] == "test"]


def stops_in(trace):
    """The list of the stops, tuples (place, variables)."""
    return [(event[1], event[2]) for event in trace if event[0] == "stop"]


def outcome_word(trace):
    """The word of the outcome of a run that is over: gave, or why it failed."""
    word, told = trace[-1]
    return word if word == "gave" else told


def reads_in(trace):
    """The sorted list of the cells read from the store, and of the code cells of the procedures entered."""
    read, written = {}, {}
    for event in trace:
        if event[0] == "stop":
            read.update({text.split(".")[0]: True for text, _, _ in event[1]})
        elif event[0] == "write":
            written[event[1]] = True
        elif event[0] == "read" and event[1] not in written:
            read[event[1]] = True
    return sorted(read)


def writes_in(trace):
    """The dict, sorted, from the cells written to their last amounts; empty if the run failed."""
    if trace[-1][0] == "failed":
        return {}
    written = {event[1]: event[2] for event in trace if event[0] == "write"}
    return {cell: written[cell] for cell in sorted(written)}
