"""Translating procedures to codes."""

from leastlog.amounts import Amount
from leastlog.coderows import merged
from leastlog.codes import Code
from leastlog.sorts import OPERATIONS


def translate(program, procedure):
    """The code of a procedure."""
    translation = Translation(program, procedure)
    return translation.code()


def book_of(program):
    """The dict from all procedure texts to their codes."""
    texts = [f"{name}.{part[2]}" for name in program.modules() for part in program.module_named(name).procedures()]
    return {text: translate(program, text) for text in texts}


class Translation:
    """The translation of one procedure.

    A scope is the dict from the variables in scope, in the order of their bindings, to their values.
    """

    def __init__(self, program, text):
        self._program = program
        self._text = text
        self._procedure = program.procedure_at(text)
        self._module = text.split(".")[0]
        # The sorts of the values so far.
        self._sorts = []

    def code(self):
        """The whole code."""
        scope = {}
        for variable, sort in self._procedure[3]:
            scope[variable] = self._new_value(sort)
        parameters = tuple([(value, self._sorts[value]) for value in scope.values()])
        return Code(self._text, parameters, self._translated(self._procedure[5], "", scope, 0))

    def _new_value(self, sort):
        self._sorts.append(sort)
        return len(self._sorts) - 1

    def _new_values(self, values):
        """New values of the same sorts."""
        return tuple([self._new_value(self._sorts[value]) for value in values])

    def _translated(self, statements, prefix, scope, depth):
        """The rows of a list of statements, which is in so many loops; changes the scope."""
        rows = []
        for position, statement in enumerate(statements):
            label = f"{prefix}{position}"
            rows.append(("stop", ((self._text, label, depth),), (self._shown(scope),)))
            self._add_statement(statement, label, scope, depth, rows)
        return tuple(rows)

    def _shown(self, scope):
        return tuple([(variable, self._told(scope[variable])) for variable in scope])

    def _told(self, value):
        if self._sorts[value] == "amount":
            return "form", Amount(0), ((value, Amount(1)),)
        return "value", value

    def _add_statement(self, statement, label, scope, depth, rows):
        kind = statement[0]
        if kind in ("let", "set"):
            scope[statement[1]] = self._value(statement[2], scope, rows)
        elif kind in ("put", "add"):
            self._add_write(statement, scope, rows)
        elif kind == "if":
            self._add_if(statement, label, scope, depth, rows)
        elif kind == "repeat":
            self._add_repeat(statement, label, scope, depth, rows)
        elif kind == "while":
            self._add_while(statement, label, scope, depth, rows)
        elif kind == "call":
            self._add_call(statement, scope, rows)
        else:
            rows.append(("give", self._values(statement[1], scope, rows)))

    def _add_write(self, statement, scope, rows):
        kind, name, index, expression = statement
        cell = f"{self._module}.{name}"
        number = None if index is None else self._value(index, scope, rows)
        amount = self._value(expression, scope, rows)
        if kind == "add":
            held = self._new_value("amount")
            rows.append(("read", held, cell, number))
            amount = self._sum(Amount(0), [(held, Amount(1)), (amount, Amount(1))], rows)
        rows.append(("write", cell, number, amount))

    def _add_if(self, statement, label, scope, depth, rows):
        _, test, first, second = statement
        truth = self._value(test, scope, rows)
        changed = variables_set(scope, [*first, *second])
        lists = []
        for letter, statements in (("a", first), ("b", second)):
            inner = dict(scope)
            lists.append(self._translated(statements, f"{label}.{letter}.", inner, depth))
            lists.append(values_in(inner, changed))
        joined = self._new_values(values_in(scope, changed))
        rows.append(("if", truth, *lists, joined))
        bind(scope, changed, joined)

    def _add_repeat(self, statement, label, scope, depth, rows):
        _, times, variable, statements = statement
        number = self._value(times, scope, rows)
        changed = variables_set(scope, statements)
        begun = values_in(scope, changed)
        turn = self._new_value("count")
        parameters = self._new_values(begun)
        inner = {**scope, variable: turn}
        bind(inner, changed, parameters)
        body = self._translated(statements, f"{label}.a.", inner, depth + 1)
        joined = self._new_values(begun)
        rows.append(("repeat", number, turn, parameters, begun, body, values_in(inner, changed), joined))
        bind(scope, changed, joined)

    def _add_while(self, statement, label, scope, depth, rows):
        _, test, most, statements = statement
        changed = variables_set(scope, statements)
        begun = values_in(scope, changed)
        parameters = self._new_values(begun)
        inner = dict(scope)
        bind(inner, changed, parameters)
        head = []
        truth = self._value(test, inner, head)
        body = self._translated(statements, f"{label}.a.", inner, depth + 1)
        joined = self._new_values(begun)
        behind = values_in(inner, changed)
        rows.append(("while", most, parameters, begun, tuple(head), truth, body, behind, joined))
        bind(scope, changed, joined)

    def _add_call(self, statement, scope, rows):
        _, variables, module, name, expressions = statement
        arguments = self._values(expressions, scope, rows)
        text = f"{self._module if module is None else module}.{name}"
        results = tuple([(self._new_value(sort), sort) for sort in self._program.procedure_at(text)[4]])
        rows.append(("call", results, text, arguments))
        bind(scope, variables, [value for value, _ in results])

    def _values(self, expressions, scope, rows):
        return tuple([self._value(expression, scope, rows) for expression in expressions])

    def _value(self, expression, scope, rows):
        """The value of an expression, behind new rows that set it if it is no variable."""
        kind = expression[0]
        if kind == "name":
            return scope[expression[1]]
        if kind == "amount":
            return self._sum(expression[1], [], rows)
        if kind in ("count", "truth"):
            return self._set("known", kind, [expression[1]], rows)
        if kind == "read":
            number = None if expression[2] is None else self._value(expression[2], scope, rows)
            return self._set("read", "amount", [f"{self._module}.{expression[1]}", number], rows)
        first = self._value(expression[1], scope, rows)
        if kind in ("*", "/") and expression[2][0] == "amount":
            factor = expression[2][1] if kind == "*" else Amount(1).over(expression[2][1])
            return self._sum(Amount(0), [(first, factor)], rows)
        operands = (first, *self._values(expression[2:], scope, rows))
        return self._operation(kind, operands, rows)

    def _operation(self, kind, operands, rows):
        operation = (kind, *[self._sorts[value] for value in operands])
        sort = OPERATIONS[operation]
        if kind in ("same", "less"):
            return self._set("test", "truth", [kind, *operands], rows)
        if sort != "amount":
            return self._set("op", sort, [kind, operands], rows)
        if kind in ("*", "/"):
            return self._set("scale" if kind == "*" else "share", "amount", operands, rows)
        first, second = operands
        return self._sum(Amount(0), [(first, Amount(1)), (second, Amount(1 if kind == "+" else -1))], rows)

    def _sum(self, constant, pairs, rows):
        return self._set("form", "amount", [constant, merged(pairs)], rows)

    def _set(self, kind, sort, parts, rows):
        """A new value that a new row sets."""
        value = self._new_value(sort)
        rows.append((kind, value, *parts))
        return value


def variables_set(scope, statements):
    """The variables in scope that statements set, lists in them included, in the order of the scope."""
    names = names_set(statements)
    return [variable for variable in scope if variable in names]


def names_set(statements):
    """The names of the variables that statements set, lists in them included."""
    found = []
    for statement in statements:
        kind = statement[0]
        if kind == "set":
            found.append(statement[1])
        elif kind == "if":
            found.extend(names_set([*statement[2], *statement[3]]))
        elif kind in ("repeat", "while"):
            found.extend(names_set(statement[3]))
    return found


def values_in(scope, variables):
    """The values of variables."""
    return tuple([scope[variable] for variable in variables])


def bind(scope, variables, values):
    """Binds variables to values."""
    for variable, value in zip(variables, values):
        scope[variable] = value
