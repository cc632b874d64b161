"""The form of modules: what their parts may be, whatever names and sorts they have.

MOST_.. are the limits of the document.
"""

from leastlog.amounts import Amount
from leastlog.kinds import is_list, is_name, is_whole

SORTS = ("amount", "count", "truth")
RESERVED = (
    "add", "amount", "and", "as", "below", "call", "carry", "cell", "cells", "count", "else", "export", "if",
    "import", "is", "less", "let", "module", "no", "not", "or", "put", "repeat", "return", "same", "set", "to",
    "truth", "up", "while", "yes",
)
OPERATORS = ("+", "-", "*", "/", "same", "less", "is", "below", "and", "or")

MOST_IMPORTS = 8
MOST_CELLS = 8
MOST_CARRIES = 20
MOST_PROCEDURES = 8
MOST_PARAMETERS = 6
MOST_RESULTS = 4
MOST_STATEMENTS = 40
DEEPEST_LIST = 3
DEEPEST_EXPRESSION = 6
MOST_TURNS = 100
LONGEST_ROW = 9


def is_identifier(value):
    """Whether any value is an identifier."""
    return is_name(value) and value not in RESERVED


def is_sort(value):
    """Whether any value is a sort."""
    return isinstance(value, str) and value in SORTS


def is_row_length(value):
    """Whether any value is a number of cells of a row."""
    return is_whole(value) and 1 <= value <= LONGEST_ROW


def is_row_index(value):
    """Whether any value is the number of a cell that some row has."""
    return is_whole(value) and 0 <= value < LONGEST_ROW


def is_turn_limit(value):
    """Whether any value is a number of turns after which a while fails."""
    return is_whole(value) and 1 <= value <= MOST_TURNS


def is_expression(value, deepest=DEEPEST_EXPRESSION):
    """Whether any value is an expression in which at most so many operations and row reads stand within one another."""
    if not isinstance(value, tuple) or len(value) < 2 or not isinstance(value[0], str):
        return False
    kind = value[0]
    if kind == "read":
        return is_read(value, deepest)
    if kind == "not":
        return len(value) == 2 and deepest > 0 and is_expression(value[1], deepest - 1)
    if kind in OPERATORS:
        return len(value) == 3 and deepest > 0 and all([is_expression(part, deepest - 1) for part in value[1:]])
    return len(value) == 2 and is_leaf(kind, value[1])


def is_leaf(kind, worth):
    """Whether a literal or a variable of this kind may have this worth."""
    if kind == "amount":
        return isinstance(worth, Amount)
    if kind == "count":
        return is_whole(worth)
    if kind == "truth":
        return isinstance(worth, bool)
    return kind == "name" and is_identifier(worth)


def is_read(value, deepest):
    """Whether a tuple that begins with "read" is an expression."""
    if len(value) != 3 or not is_identifier(value[1]):
        return False
    return value[2] is None or deepest > 0 and is_expression(value[2], deepest - 1)


def is_statement_list(value, deepest=DEEPEST_LIST):
    """Whether any value is a LIST of statements, at most so many lists deep."""
    if not isinstance(value, tuple) or len(value) > MOST_STATEMENTS or deepest == 0:
        return False
    return all([is_statement(part, deepest) for part in value])


def is_statement(value, deepest):
    """Whether any value is a statement of a list that may be so deep."""
    if not isinstance(value, tuple) or not value or not isinstance(value[0], str):
        return False
    kind, parts = value[0], value[1:]
    if kind in ("let", "set"):
        return len(parts) == 2 and is_identifier(parts[0]) and is_expression(parts[1])
    if kind in ("put", "add"):
        return len(parts) == 3 and is_identifier(parts[0]) and is_index(parts[1]) and is_expression(parts[2])
    if kind == "call":
        return is_call(parts)
    if kind == "return":
        return len(parts) == 1 and is_tuple_of_expressions(parts[0])
    return is_branching(kind, parts, deepest)


def is_branching(kind, parts, deepest):
    """Whether these are the parts of a statement of this kind that has lists of its own."""
    if len(parts) != 3 or not is_expression(parts[0]) or not is_statement_list(parts[2], deepest - 1):
        return False
    if kind == "if":
        return is_statement_list(parts[1], deepest - 1)
    if kind == "repeat":
        return is_identifier(parts[1])
    return kind == "while" and is_turn_limit(parts[1])


def is_index(value):
    """Whether any value may stand for the number of a cell of a row."""
    return value is None or is_expression(value)


def is_call(parts):
    """Whether these are the parts of a call."""
    if len(parts) != 4:
        return False
    names, module, procedure, arguments = parts
    if not isinstance(names, tuple) or not all([is_identifier(name) for name in names]):
        return False
    return (module is None or is_identifier(module)) and is_identifier(procedure) and is_tuple_of_expressions(arguments)


def is_tuple_of_expressions(value):
    """Whether any value is a tuple of expressions."""
    return isinstance(value, tuple) and all([is_expression(part) for part in value])


def is_procedure(value):
    """Whether any value is a procedure."""
    if not isinstance(value, tuple) or len(value) != 6 or not isinstance(value[0], str):
        return False
    word, exported, name, parameters, results, body = value
    if word != "procedure" or not isinstance(exported, bool) or not is_identifier(name):
        return False
    return are_parameters(parameters) and are_results(results) and is_statement_list(body)


def are_parameters(value):
    """Whether any value is a tuple of parameters."""
    if not isinstance(value, tuple) or len(value) > MOST_PARAMETERS:
        return False
    pairs = [part for part in value if isinstance(part, tuple) and len(part) == 2]
    return len(pairs) == len(value) and all([is_identifier(part[0]) and is_sort(part[1]) for part in pairs])


def are_results(value):
    """Whether any value is a tuple of sorts of results."""
    return isinstance(value, tuple) and len(value) <= MOST_RESULTS and all([is_sort(sort) for sort in value])


def is_cell(value):
    """Whether any value is a cell of a module, or a row of cells."""
    if not isinstance(value, tuple) or len(value) != 2:
        return False
    return is_identifier(value[0]) and (value[1] is None or is_row_length(value[1]))


def is_carry(value):
    """Whether any value is a carry."""
    if not isinstance(value, tuple) or len(value) != 3:
        return False
    return is_identifier(value[0]) and (value[1] is None or is_row_index(value[1])) and is_expression(value[2])


def are_imports(value):
    """Whether any value is a list of imports."""
    return is_list(value) and len(value) <= MOST_IMPORTS and all([is_identifier(name) for name in value])


def are_cells(value):
    """Whether any value is a list of cells."""
    return is_list(value) and len(value) <= MOST_CELLS and all([is_cell(cell) for cell in value])


def are_procedures(value):
    """Whether any value is a list of procedures."""
    return is_list(value) and len(value) <= MOST_PROCEDURES and all([is_procedure(part) for part in value])


def are_carries(value):
    """Whether any value is a list of carries."""
    return is_list(value) and len(value) <= MOST_CARRIES and all([is_carry(carry) for carry in value])
