"""Programs: checked modules that are linked, and what a new version of a module takes over."""

from leastlog.checker import first_fault, interface_of
from leastlog.errors import BadCarry, BadImport, Unchecked
from leastlog.failures import DuplicateModule, UnknownModule, UnknownProcedure
from leastlog.forms import Form
from leastlog.linking import check_imports, linked_order


def carried(old, new):
    """The forms over the old cells, old being None if there are none, that the cells of the new version get."""
    held = {} if old is None else {text: True for text in old.cell_texts()}
    forms = {text: Form(0, {text: 1} if text in held else {}) for text in new.cell_texts()}
    given = {}
    for position, (name, number, expression) in enumerate(new.carries()):
        text = place_text(new.name, name, number)
        if text not in forms or text in given:
            raise BadCarry(position)
        form = carried_form(expression, new.name, held)
        if form is None:
            raise BadCarry(position)
        given[text] = form
    return {**forms, **given}


def place_text(module, name, number):
    """The cell text of a single cell, or of a cell with a number."""
    return f"{module}.{name}" if number is None else f"{module}.{name}.{number}"


def carried_form(expression, module, held):
    """The form over the held cells that an expression of a carry means; None if it is not allowed."""
    kind = expression[0]
    if kind == "amount":
        return Form(expression[1])
    if kind == "read":
        return read_form(expression, module, held)
    if kind not in ("+", "-", "*", "/"):
        return None
    first = carried_form(expression[1], module, held)
    second = carried_form(expression[2], module, held)
    if first is None or second is None:
        return None
    if kind in ("+", "-"):
        return first + second if kind == "+" else first - second
    if expression[2][0] != "amount" or kind == "/" and expression[2][1].sign == 0:
        return None
    return first * expression[2][1] if kind == "*" else first.over(expression[2][1])


def read_form(expression, module, held):
    """The form of a cell that is read; None if it is not held."""
    _, name, number = expression
    if number is not None and number[0] != "count":
        return None
    text = place_text(module, name, None if number is None else number[1])
    return Form.symbol(text) if text in held else None


class Program:
    """Checked modules with different names, each with its imports. Programs never change."""

    def __init__(self, *modules):
        table = {}
        for module in modules:
            if module.name in table:
                raise DuplicateModule(module.name)
            table[module.name] = module
        check_imports(table)
        self._order = linked_order(table)
        self._modules = {name: table[name] for name in sorted(table)}
        self._interfaces = {name: interface_of(self._modules[name]) for name in self._modules}
        for name in self._order:
            fault = first_fault(table[name], self._interfaces)
            if fault is not None:
                raise Unchecked(name, fault)
        named = [(name, procedure) for name in self._order for procedure in table[name].procedures()]
        self._procedures = {f"{name}.{procedure[2]}": procedure for name, procedure in named}

    def modules(self):
        """The names of the modules in the linked order."""
        return list(self._order)

    def module_named(self, name):
        """The module with this name."""
        self._require_module(name)
        return self._modules[name]

    def interfaces(self):
        """The interfaces of all modules, by ascending names."""
        return {name: dict(self._interfaces[name]) for name in self._interfaces}

    def cells(self):
        """The sorted list of all cell texts."""
        return sorted([text for name in self._order for text in self._modules[name].cell_texts()])

    def procedure_at(self, text):
        """The procedure with this procedure text."""
        if not isinstance(text, str) or text not in self._procedures:
            raise UnknownProcedure(text)
        return self._procedures[text]

    def importers(self, name):
        """The sorted list of the modules that import this one."""
        self._require_module(name)
        return [other for other in self._modules if name in self._modules[other].imports()]

    def with_module(self, module):
        """The program with this version of a module, or with one more."""
        table = {**self._modules, module.name: module}
        check_imports(table)
        interfaces = {**self._interfaces, module.name: interface_of(module)}
        fault = first_fault(module, interfaces)
        if fault is not None:
            raise Unchecked(module.name, fault)
        for importer in sorted(table):
            fault = first_fault(table[importer], interfaces) if module.name in table[importer].imports() else None
            if fault is not None:
                raise BadImport(importer, fault)
        carried(self._modules.get(module.name), module)
        modules = [table[name] for name in table]
        return Program(*modules)

    def _require_module(self, name):
        if not isinstance(name, str) or name not in self._modules:
            raise UnknownModule(name)

    def __eq__(self, other):
        return isinstance(other, Program) and self._modules == other._modules

    def __len__(self):
        return len(self._modules)
