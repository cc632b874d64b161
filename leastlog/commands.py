"""The forms of commands: what the words of a command are, whatever there is in the console.

A reader returns the parts for which some words stand, a tuple, or None if they have not the right forms.
"""

from leastlog.literals import module_in, natural_in
from leastlog.payloads import run_call_in

KEY_KINDS = {"a": "archive", "e": "ended", "l": "live"}


def read_nothing(words):
    """No words."""
    return None if words else ()


def read_number(words):
    """One number."""
    number = natural_in(words[0]) if len(words) == 1 else None
    return None if number is None else (number,)


def read_numbers(words):
    """One number or more, as a list."""
    numbers = [natural_in(word) for word in words]
    return None if not numbers or None in numbers else (numbers,)


def read_text(words):
    """The text of a module."""
    module = module_in(" ".join(words))
    return None if module is None else (module,)


def read_lane_and_text(words):
    """A lane and the text of a module."""
    lane, text = read_number(words[:1]), read_text(words[1:])
    return None if lane is None or text is None else (*lane, *text)


def read_call(words):
    """A procedure and its arguments, as in the payload of a run with the weight 1."""
    record = run_call_in(" ".join(["run", *words[:1], "1", *words[1:]]))
    return None if record is None else (record[1], record[2])


def read_lane_and_call(words):
    """A lane, a weight, a procedure and its arguments."""
    lane = read_number(words[:1])
    record = run_call_in(" ".join(["run", *words[2:3], *words[1:2], *words[3:]]))
    return None if lane is None or record is None else (*lane, record[3], record[1], record[2])


def read_spot(words):
    """A key and a stop."""
    if len(words) != 2 or words[0][:1] not in KEY_KINDS:
        return None
    number, stop = natural_in(words[0][1:]), natural_in(words[1])
    return None if number is None or stop is None else ((KEY_KINDS[words[0][:1]], number), stop)


READERS = {
    "load": read_text, "start": read_number, "begin": read_lane_and_call, "step": read_number, "end": read_number,
    "replace": read_lane_and_text, "sync": read_number, "letgo": read_nothing, "crash": read_numbers,
    "cells": read_nothing, "kept": read_nothing, "go": read_spot, "forward": read_nothing, "back": read_nothing,
    "show": read_nothing, "lost": read_call,
}


def command_in(text):
    """The word of a command and the tuple of its parts; None if the string is none."""
    words = text.split(" ")
    if words[0] not in READERS:
        return None
    reader = READERS[words[0]]
    parts = reader(words[1:])
    return None if parts is None else (words[0], parts)
