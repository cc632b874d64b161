"""Words that are numbers or literals, and modules in one line."""

from leastlog.errors import InvalidText
from leastlog.lines import Line
from leastlog.moduletexts import read_module

# What stands in place of line feeds where a text has to be one line.
BREAK = "|"


def natural_in(word):
    """The number with this text, without a sign; None if there is none."""
    line = Line(word, 1)
    try:
        number = line.natural()
        line.end()
    except InvalidText:
        return None
    return number


def literal_in(word):
    """The value of the literal with this text; None if there is none."""
    if word in ("yes", "no"):
        return word == "yes"
    line = Line(word, 1)
    try:
        _, worth = line.numeral()
        line.end()
    except InvalidText:
        return None
    return worth


def module_line(module):
    """The text of a module in one line."""
    return BREAK.join(str(module).split("\n")[:-1])


def module_in(line):
    """The module whose text in one line this is; None if there is none."""
    if "\n" in line:
        return None
    lines = line.split(BREAK)
    try:
        module = read_module("".join([f"{part}\n" for part in lines]))
    except InvalidText:
        return None
    return module
