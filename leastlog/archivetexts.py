"""The texts of archives: one sealed row, whose record has all parts of the archive.

The parts stand behind one another with PART between them, their items with ITEM between them, the words of an item with
a space. No text of a module has these characters.
"""

from leastlog.archives import Archive
from leastlog.errors import InvalidText
from leastlog.literals import lines_of, literal_in, module_in, natural_in, one_line
from leastlog.programs import Program
from leastlog.seals import record_in_row, sealed
from leastlog.writing import literal_text

HEAD = "archive"
PART = "#"
ITEM = ";"
# In place of a truth of a path, if there is none, and of an amount that was passed.
NO_TRUTHS = "-"
FORGOTTEN = "_"


def archive_text(archive):
    """A text from which an equal archive can be read."""
    program, cells, cuts, records, cells_now, kept, taken = archive.parts()
    parts = [
        [one_line(str(program.module_named(name))) for name in program.modules()],
        cell_items(cells),
        [str(number) for number in cuts],
        [record_item(record) for record in records],
        cell_items(cells_now),
        [kept_item(what, amount, cost) for what, amount, cost in kept],
        [str(number) for number in taken],
    ]
    return sealed(PART.join([HEAD, *[ITEM.join(part) for part in parts]]))


def cell_items(cells):
    """The items of a dict of cells."""
    return [f"{cell} {literal_text(cells[cell])}" for cell in cells]


def record_item(record):
    """The item of a record."""
    if record[0] == "module":
        return one_line(record[1])
    _, procedure, controls, path, word, weight = record
    truths = "".join(["y" if truth else "n" for truth in path]) if path else NO_TRUTHS
    words = [FORGOTTEN if control is None else literal_text(control) for control in controls]
    return " ".join(["run", procedure, word, str(weight), truths, *words])


def kept_item(what, amount, cost):
    """The item of a kept number."""
    kind, number, part = what
    return f"{kind} {number} {part} {literal_text(amount)} {cost}"


def read_archive(text):
    """The archive with this text."""
    if not isinstance(text, str):
        raise InvalidText(0)
    record = record_in_row(text)
    parts = [] if record is None else record.split(PART)
    if len(parts) != 8 or parts[0] != HEAD:
        raise InvalidText(1)
    texts, cells, cuts, records, cells_now, kept, taken = [items_in(part) for part in parts[1:]]
    modules = [module_in(text) for text in texts]
    return Archive.of_parts((
        Program(*modules), cells_in(cells), numbers_in(cuts), [record_in(item) for item in records],
        cells_in(cells_now), [kept_in(item) for item in kept], tuple(numbers_in(taken)),
    ))


def items_in(part):
    """The items of a part."""
    return part.split(ITEM) if part else []


def numbers_in(items):
    """The numbers of items."""
    return [natural_in(item) for item in items]


def cells_in(items):
    """The dict of cells of items."""
    rows = [item.split(" ") for item in items]
    return {cell: literal_in(word) for cell, word in rows}


def record_in(item):
    """The record of an item."""
    if not item.startswith("run "):
        return "module", lines_of(item)
    _, procedure, word, weight, truths, *words = item.split(" ")
    path = [] if truths == NO_TRUTHS else [letter == "y" for letter in truths]
    controls = [None if part == FORGOTTEN else literal_in(part) for part in words]
    return "run", procedure, tuple(controls), tuple(path), word, natural_in(weight)


def kept_in(item):
    """The kept number of an item."""
    kind, number, part, amount, cost = item.split(" ")
    what = (kind, natural_in(number), natural_in(part) if kind == "input" else part)
    return what, literal_in(amount), natural_in(cost)
