"""Words that are numbers or literals, and modules in one line."""

from leastlog.errors import InvalidText
from leastlog.lines import Line
from leastlog.moduletexts import read_module

# What stands in place of line feeds where a text has to be one line.
BREAK = "|"


def natural_in(word):
    """The number with this text, without a sign; None if there is none."""
    line = Line(word, 1)
    try:
        number = line.natural()
        line.end()
    except InvalidText:
        return None
    return number


def literal_in(word):
    """The value of the literal with this text; None if there is none."""
    if word in ("yes", "no"):
        return word == "yes"
    line = Line(word, 1)
    try:
        _, worth = line.numeral()
        line.end()
    except InvalidText:
        return None
    return worth


def one_line(text):
    """A text of lines, each ended by a line feed, as one line."""
    return BREAK.join(text.split("\n")[:-1])


def lines_of(line):
    """The text of lines that was made one line."""
    return "".join([f"{part}\n" for part in line.split(BREAK)])


def module_in(line):
    """The module whose text in one line this is; None if there is none."""
    if "\n" in line:
        return None
    try:
        module = read_module(lines_of(line))
    except InvalidText:
        return None
    return module
