"""Checking modules against the interfaces of others."""

from leastlog.sorts import Flaw, check_cell, index_sort, require, sort_of


class Fault:
    """A fault of a module: its kind, the name of its procedure and the label of its statement."""

    def __init__(self, kind, procedure, label):
        self.kind = kind
        self.procedure = procedure
        self.label = label

    def __eq__(self, other):
        return (isinstance(other, Fault) and self.kind == other.kind and self.procedure == other.procedure
                and self.label == other.label)

    def __str__(self):
        if self.procedure is None:
            return str(self.kind)
        if self.label is None:
            return f"{self.kind} at {self.procedure}"
        return f"{self.kind} at {self.procedure} {self.label}"


def interface_of(module):
    """The dict from the names of the exported procedures to the sorts of their parameters and results."""
    return {procedure[2]: signature_of(procedure) for procedure in module.procedures() if procedure[1]}


def signature_of(procedure):
    """The tuple of the sorts of the parameters and the tuple of those of the results."""
    return tuple([sort for _, sort in procedure[3]]), procedure[4]


def first_fault(module, interfaces):
    """The first Fault of a module in the order of its text, or None."""
    taken = {module.name: True}
    for name in module.imports():
        if name in taken:
            return Fault("name", None, None)
        if name not in interfaces:
            return Fault("module", None, None)
        taken[name] = True
    cells = {}
    for name, length in module.cells():
        if name in cells:
            return Fault("name", None, None)
        cells[name] = length
    imported = {name: interfaces[name] for name in module.imports()}
    return first_fault_of_procedures(module.procedures(), imported, cells)


def first_fault_of_procedures(procedures, imported, cells):
    """The first Fault of the procedures of a module, or None."""
    earlier = {}
    for procedure in procedures:
        name = procedure[2]
        if name in earlier:
            return Fault("name", name, None)
        fault = ProcedureCheck(procedure, imported, cells, earlier).first_fault()
        if fault is not None:
            return fault
        earlier[name] = signature_of(procedure)
    return None


class ProcedureCheck:
    """The check of one procedure, from its first line to its last one."""

    def __init__(self, procedure, imported, cells, earlier):
        self._procedure = procedure
        self._imported = imported
        self._cells = cells
        self._earlier = earlier
        # All variables of the lines so far, in scope or not.
        self._variables = {}

    def first_fault(self):
        """The first Fault of the procedure behind its name, or None."""
        _, _, name, parameters, _, body = self._procedure
        for variable, sort in parameters:
            if variable in self._variables:
                return Fault("name", name, None)
            self._variables[variable] = sort
        fault = self._fault_in(body, "", dict(self._variables), True)
        if fault is None and (not body or body[-1][0] != "return"):
            return Fault("return", name, str(len(body)))
        return fault

    def _fault_in(self, statements, prefix, scope, is_body):
        """The first Fault of a list; scope has the sorts of the variables in scope, and gets new ones."""
        for position, statement in enumerate(statements):
            is_end = is_body and position == len(statements) - 1
            label = f"{prefix}{position}"
            try:
                self._check(statement, scope, is_end)
            except Flaw as flaw:
                return Fault(flaw.kind, self._procedure[2], label)
            fault = self._fault_inside(statement, label, scope)
            if fault is not None:
                return fault
        return None

    def _fault_inside(self, statement, label, scope):
        """The first Fault of the lists of a statement, or None."""
        kind = statement[0]
        if kind == "if":
            fault = self._fault_in(statement[2], f"{label}.a.", dict(scope), False)
            return self._fault_in(statement[3], f"{label}.b.", dict(scope), False) if fault is None else fault
        if kind == "repeat":
            return self._fault_in(statement[3], f"{label}.a.", {**scope, statement[2]: "count"}, False)
        if kind == "while":
            return self._fault_in(statement[3], f"{label}.a.", dict(scope), False)
        return None

    def _check(self, statement, scope, is_end):
        """Checks the expressions of a statement, then its own rules; binds the variables that it binds behind it."""
        kind = statement[0]
        if kind in ("let", "set"):
            self._check_binding(kind, statement[1], self._sort(statement[2], scope), scope)
        elif kind in ("put", "add"):
            number_sort = index_sort(statement[2], scope, self._cells)
            sort = self._sort(statement[3], scope)
            check_cell(statement[1], number_sort, self._cells)
            require(sort == "amount", "sort")
        elif kind == "repeat":
            sort = self._sort(statement[1], scope)
            self._take(statement[2], "count")
            require(sort == "count", "sort")
        elif kind in ("if", "while"):
            require(self._sort(statement[1], scope) == "truth", "sort")
        elif kind == "call":
            self._check_call(statement, scope)
        else:
            self._check_return(statement, scope, is_end)

    def _sort(self, expression, scope):
        return sort_of(expression, scope, self._cells)

    def _take(self, variable, sort):
        """A new variable has another name than all earlier ones."""
        require(variable not in self._variables, "name")
        self._variables[variable] = sort

    def _check_binding(self, kind, variable, sort, scope):
        if kind == "let":
            self._take(variable, sort)
            scope[variable] = sort
        else:
            require(variable in scope, "variable")
            require(scope[variable] == sort, "sort")

    def _check_call(self, statement, scope):
        _, variables, module, name, arguments = statement
        sorts = tuple([self._sort(argument, scope) for argument in arguments])
        for variable in variables:
            self._take(variable, None)
        require(module is None or module in self._imported, "module")
        known = self._earlier if module is None else self._imported[module]
        require(name in known, "procedure")
        parameters, results = known[name]
        require(len(parameters) == len(sorts) and len(results) == len(variables), "amount")
        require(parameters == sorts, "sort")
        for variable, sort in zip(variables, results):
            scope[variable] = sort

    def _check_return(self, statement, scope, is_end):
        sorts = tuple([self._sort(result, scope) for result in statement[1]])
        results = self._procedure[4]
        require(len(results) == len(sorts), "amount")
        require(results == sorts, "sort")
        require(is_end, "return")
