"""The texts of modules and of their parts."""


def module_text(name, imports, cells, carries, procedures):
    """The text of a module with these parts."""
    lines = [f"module {name}"]
    lines.extend([f"import {other}" for other in imports])
    lines.extend([cell_line(cell) for cell in cells])
    lines.extend([carry_line(carry) for carry in carries])
    for procedure in procedures:
        lines.extend(procedure_lines(procedure))
    return "".join([f"{line}\n" for line in lines])


def cell_line(cell):
    """The line of a cell, or of a row of cells."""
    name, length = cell
    return f"cell {name}" if length is None else f"cells {name} {length}"


def carry_line(carry):
    """The line of a carry."""
    name, number, expression = carry
    place = name if number is None else f"{name}[{number}]"
    return f"carry {place} = {expression_text(expression)}"


def procedure_lines(procedure):
    """The lines of a procedure."""
    _, exported, name, parameters, results, body = procedure
    words = ["export"] if exported else []
    words = [*words, "procedure", name, *[f"{variable}:{sort}" for variable, sort in parameters]]
    if results:
        words = [*words, "->", *results]
    return [" ".join(words), *list_lines(body)]


def list_lines(statements):
    """The lines of a list of statements, two spaces further in than what is around it."""
    lines = []
    for statement in statements:
        lines.extend([f"  {line}" for line in statement_lines(statement)])
    return lines


def statement_lines(statement):
    """The lines of a statement."""
    kind = statement[0]
    if kind == "if":
        lines = [f"if {expression_text(statement[1])}", *list_lines(statement[2])]
        return [*lines, "else", *list_lines(statement[3])] if statement[3] else lines
    if kind == "repeat":
        return [f"repeat {expression_text(statement[1])} as {statement[2]}", *list_lines(statement[3])]
    if kind == "while":
        return [f"while {expression_text(statement[1])} up to {statement[2]}", *list_lines(statement[3])]
    return [simple_line(statement)]


def simple_line(statement):
    """The line of a statement that has no lists."""
    kind = statement[0]
    if kind in ("let", "set"):
        return f"{kind} {statement[1]} = {expression_text(statement[2])}"
    if kind == "put":
        return f"put {cell_text(statement[1], statement[2])} = {expression_text(statement[3])}"
    if kind == "add":
        return f"add {cell_text(statement[1], statement[2])} {expression_text(statement[3])}"
    if kind == "call":
        return call_line(statement)
    return f"return {texts_with_commas(statement[1])}" if statement[1] else "return"


def call_line(statement):
    """The line of a call."""
    _, names, module, procedure, arguments = statement
    target = procedure if module is None else f"{module}.{procedure}"
    results = ", ".join(names)
    binding = f"{results} = " if names else ""
    return f"call {binding}{target}({texts_with_commas(arguments)})"


def texts_with_commas(expressions):
    """The texts of expressions behind one another."""
    return ", ".join([expression_text(expression) for expression in expressions])


def cell_text(name, number):
    """A cell of a row with the expression of its number, or a single cell."""
    return name if number is None else f"{name}[{expression_text(number)}]"


def expression_text(expression):
    """The text of an expression."""
    kind = expression[0]
    if kind == "read":
        return f"@{cell_text(expression[1], expression[2])}"
    if kind == "not":
        return f"(not {expression_text(expression[1])})"
    if len(expression) == 3:
        return f"({expression_text(expression[1])} {kind} {expression_text(expression[2])})"
    return literal_text(expression[1]) if kind != "name" else expression[1]


def literal_text(worth):
    """The text of a literal: yes or no, a count, or an amount, which has always a bottom."""
    if isinstance(worth, bool):
        return "yes" if worth else "no"
    if isinstance(worth, int):
        return str(worth)
    return f"{worth.top}/{worth.bottom}"
