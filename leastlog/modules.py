"""Modules: imports, cells, carries and procedures under a name."""

from leastlog.errors import InvalidModule
from leastlog.grammar import are_carries, are_cells, are_imports, are_procedures, is_identifier
from leastlog.writing import module_text


class Module:
    """A module as it is written, whether it has faults or not. Modules never change."""

    def __init__(self, name, imports=(), cells=(), procedures=(), carries=()):
        if not is_identifier(name):
            raise InvalidModule("name")
        if not are_imports(imports):
            raise InvalidModule("imports")
        if not are_cells(cells):
            raise InvalidModule("cells")
        if not are_procedures(procedures):
            raise InvalidModule("procedures")
        if not are_carries(carries):
            raise InvalidModule("carries")
        self.name = name
        self._imports = list(imports)
        self._cells = list(cells)
        self._procedures = list(procedures)
        self._carries = list(carries)

    def imports(self):
        """The list of the names of the imports."""
        return list(self._imports)

    def cells(self):
        """The list of the cells and rows."""
        return list(self._cells)

    def procedures(self):
        """The list of the procedures."""
        return list(self._procedures)

    def carries(self):
        """The list of the carries."""
        return list(self._carries)

    def cell_texts(self):
        """The sorted list of the cell texts."""
        single = [f"{self.name}.{name}" for name, length in self._cells if length is None]
        rows = [(name, length) for name, length in self._cells if length is not None]
        return sorted([*single, *[f"{self.name}.{name}.{number}" for name, length in rows for number in range(length)]])

    def __eq__(self, other):
        return (isinstance(other, Module) and self.name == other.name and self._imports == other._imports
                and self._cells == other._cells and self._procedures == other._procedures
                and self._carries == other._carries)

    def __str__(self):
        return str(module_text(self.name, self._imports, self._cells, self._carries, self._procedures))

    def __repr__(self):
        return f"Module({self.name!r})"
