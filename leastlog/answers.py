"""The answers to commands, each a function of a debugger and of the parts of the command."""

from leastlog.commands import KEY_KINDS
from leastlog.failures import NoSpot
from leastlog.writing import literal_text

NOTHING = "-"


def begin_run(debugger, lane, weight, procedure, arguments):
    """Begins a run; tells where it stands."""
    debugger.engine.begin(lane, procedure, arguments, weight=weight)
    return standing_text(debugger, lane)


def step_run(debugger, lane):
    """Steps a run; tells where it stands."""
    debugger.engine.step(lane)
    return standing_text(debugger, lane)


def end_run(debugger, lane):
    """Finishes and ends a run; tells its number."""
    debugger.engine.finish(lane)
    number = debugger.engine.end(lane)
    return "again" if number is None else str(number)


def replace_module(debugger, lane, module):
    """Replaces a module; tells the number of the replacement."""
    return str(debugger.engine.replace(lane, module))


def sync_lane(debugger, lane):
    """Makes sure what the disk of a lane has."""
    debugger.engine.sync(lane)
    return "ok"


def let_runs_go(debugger):
    """Lets the ended runs go; tells how many."""
    return str(debugger.archive.let_go(debugger.engine))


def tell_cells(debugger):
    """Tells the store."""
    return items_text(amount_items(debugger.engine.cells()))


def tell_kept(debugger):
    """Tells the kept numbers."""
    return items_text([literal_text(amount) for _, amount in debugger.archive.kept()])


def go_to(debugger, key, stop):
    """Moves the cursor to a spot; tells it."""
    return spot_text(debugger, debugger.go(key, stop))


def go_forward(debugger):
    """Moves the cursor to the next spot; tells it."""
    return spot_text(debugger, debugger.forward())


def go_back(debugger):
    """Moves the cursor to the spot ahead; tells it."""
    return spot_text(debugger, debugger.back())


def show_variables(debugger):
    """Tells the variables of the innermost frame at the cursor."""
    spot = debugger.cursor()
    if spot is None:
        raise NoSpot("the cursor stands nowhere")
    _, variables = debugger.at(spot[0], spot[1])
    return items_text(amount_items(variables[-1]))


def tell_lost(debugger, procedure, arguments):
    """Tells how many numbers a run would make the archive keep."""
    return str(debugger.lost_by(procedure, arguments))


ANSWERS = {
    "begin": begin_run, "step": step_run, "end": end_run, "replace": replace_module, "sync": sync_lane,
    "letgo": let_runs_go, "cells": tell_cells, "kept": tell_kept, "go": go_to, "forward": go_forward, "back": go_back,
    "show": show_variables, "lost": tell_lost,
}


def amount_items(values):
    """The items NAME=LITERAL of a dict."""
    return [f"{name}={literal_text(value)}" for name, value in values.items()]


def items_text(items):
    """Items with a space between them."""
    return " ".join(items) if items else NOTHING


def standing_text(debugger, lane):
    """Where the run under way of a lane stands."""
    place = debugger.engine.place_of(lane)
    return "over" if place is None else place_text(place)


def spot_text(debugger, spot):
    """A spot and its place."""
    (kind, number), stop = spot
    place, _ = debugger.at(spot[0], stop)
    letters = [letter for letter in KEY_KINDS if KEY_KINDS[letter] == kind]
    return f"{letters[0]}{number} {stop} {place_text(place)}"


def place_text(place):
    """The text of a place."""
    return " / ".join([f"{text} {label} {rounds_text(rounds)}" for text, label, rounds in place])


def rounds_text(rounds):
    """The text of the numbers of turns."""
    return ",".join([str(number) for number in rounds]) if rounds else NOTHING
