"""What replacements of modules do to cells, and which cells they read and write."""

from leastlog.forms import Form
from leastlog.programs import carried


def version_in(program, name):
    """The module with this name in a program, None if there is none."""
    return program.module_named(name) if name in program.modules() else None


def forms_behind(program, later, module):
    """The dict from the cells of the later program, sorted, to forms over those of the program that it comes from.

    The later program is the one with this version of the module.
    """
    forms = carried(version_in(program, module.name), module)
    return {cell: forms[cell] if cell in forms else Form.symbol(cell) for cell in later.cells()}


def footprint_of(program, module):
    """The cells that a replacement reads, and those that it writes, code cells included."""
    old = version_in(program, module.name)
    versions = [module] if old is None else [old, module]
    read = {symbol: True for form in carried(old, module).values() for symbol in form.symbols()}
    importers = [] if old is None else program.importers(module.name)
    imports = [name for version in versions for name in version.imports()]
    read.update({name: True for name in [module.name, *importers, *imports]})
    written = {cell: True for version in versions for cell in version.cell_texts()}
    written[module.name] = True
    return sorted(read), sorted(written)
