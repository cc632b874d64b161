"""Changed versions of modules, for the tests."""

from leastlog.errors import BadImport, InvalidText, Unchecked
from leastlog.modules import Module
from leastlog.moduletexts import read_module


def changed_version(random, made, name):
    """A version of a module of a program with some parts changed, and without faults."""
    old = made.module_named(name)
    for _ in range(20):
        try:
            found = read_module(changed_text(random, old))
            made.with_module(found)
        except (InvalidText, Unchecked, BadImport):
            continue
        if found.procedures() != old.procedures():
            return found
    return Module(name, old.imports(), old.cells(), old.procedures())


def changed_text(random, module):
    lines = [line for line in str(module).split("\n")[:-1] if not line.startswith("carry")]
    cells = [cell if length is None else f"{cell}[0]" for cell, length in module.cells()]
    for _ in range(random.choice((1, 2, 4))):
        at = random.randrange(len(lines))
        line, words = lines[at], lines[at].split(" = ")
        if line.lstrip().startswith("put ") and random.random() < 0.6:
            lines[at] = f"{words[0]} = ({words[1]} + @{random.choice(cells)})"
        elif line.lstrip().startswith(("put ", "add ")) and random.random() < 0.3:
            del lines[at]
        else:
            old, new = random.choice(((" less ", " same "), (" + ", " - "), (" same ", " less "), ("3/1", "5/1"), ("1/3", "2/3"), ("0/1", "-1/1"),
                                      (f"@{cells[0]}", f"@{cells[1]}"), (f"@{cells[1]}", f"@{cells[0]}")))
            lines[at] = line.replace(old, new, 1)
    if random.random() < 0.2:
        at = len([line for line in lines if line.startswith(("module", "import", "cell"))])
        lines.insert(at, f"carry {random.choice(cells)} = (@{random.choice(cells)} * {random.choice(('2/1', '1/1', '-1/2'))})")
    return "\n".join(lines) + "\n"
