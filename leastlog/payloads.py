"""Payloads: calls of runs and new versions of modules, as entries of journals have them."""

from leastlog.amounts import Amount
from leastlog.errors import InvalidPayload
from leastlog.kinds import is_list, is_name, is_whole
from leastlog.literals import literal_in, module_in, natural_in, one_line
from leastlog.modules import Module
from leastlog.writing import literal_text

MOST_WEIGHT = 9


def payload_of(record):
    """The payload of a tuple for a run or for a replacement."""
    if is_run_call(record):
        _, procedure, arguments, weight = record
        words = ["run", procedure, str(weight), *[literal_text(argument) for argument in arguments]]
        return " ".join(words)
    if is_new_version(record):
        return one_line(str(record[1]))
    raise InvalidPayload(record)


def read_payload(text):
    """The tuple of which this is the payload."""
    record = record_in(text) if isinstance(text, str) else None
    if record is None:
        raise InvalidPayload(text)
    return record


def record_in(text):
    """The tuple of which a string is the payload, or None."""
    if text.startswith("run "):
        return run_call_in(text)
    module = module_in(text)
    return None if module is None else ("module", module)


def run_call_in(text):
    """The tuple of a run of which a string is the payload, or None."""
    words = text.split(" ")
    if len(words) < 3:
        return None
    arguments = [literal_in(word) for word in words[3:]]
    record = ("run", words[1], arguments, natural_in(words[2]))
    return record if is_run_call(record) else None


def is_run_call(value):
    """Whether any value is the tuple of a run."""
    if not isinstance(value, tuple) or len(value) != 4 or not isinstance(value[0], str) or value[0] != "run":
        return False
    _, procedure, arguments, weight = value
    if not is_procedure_text(procedure) or not is_weight(weight) or not is_list(arguments):
        return False
    return all([is_literal(argument) for argument in arguments])


def is_new_version(value):
    """Whether any value is the tuple of a replacement."""
    if not isinstance(value, tuple) or len(value) != 2 or not isinstance(value[0], str):
        return False
    return value[0] == "module" and isinstance(value[1], Module)


def is_procedure_text(value):
    """Whether any value is two NAMES with a point between them."""
    if not isinstance(value, str):
        return False
    names = value.split(".")
    return len(names) == 2 and is_name(names[0]) and is_name(names[1])


def is_literal(value):
    """Whether any value has a literal."""
    return isinstance(value, (Amount, bool)) or is_whole(value)


def is_weight(value):
    """Whether any value is the weight of a run."""
    return is_whole(value) and 1 <= value <= MOST_WEIGHT
