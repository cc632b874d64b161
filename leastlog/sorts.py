"""The sorts of expressions, and the faults that expressions can have."""

# The sort of an operation by its word and the sorts of its operands.
OPERATIONS = {
    ("+", "amount", "amount"): "amount",
    ("+", "count", "count"): "count",
    ("-", "amount", "amount"): "amount",
    ("-", "count", "count"): "count",
    ("*", "amount", "count"): "amount",
    ("*", "amount", "amount"): "amount",
    ("*", "count", "count"): "count",
    ("/", "amount", "count"): "amount",
    ("/", "amount", "amount"): "amount",
    ("same", "amount", "amount"): "truth",
    ("less", "amount", "amount"): "truth",
    ("is", "count", "count"): "truth",
    ("below", "count", "count"): "truth",
    ("and", "truth", "truth"): "truth",
    ("or", "truth", "truth"): "truth",
    ("not", "truth"): "truth",
}


class Flaw(Exception):
    """A statement has a fault of this kind."""

    def __init__(self, kind):
        self.kind = kind


def require(is_right, kind):
    """Raises a Flaw of this kind unless something is right."""
    if not is_right:
        raise Flaw(kind)


def sort_of(expression, variables, cells):
    """The sort of an expression, for the sorts of variables and the lengths of cells (None for single ones)."""
    kind = expression[0]
    if kind in ("amount", "count", "truth"):
        return kind
    if kind == "name":
        require(expression[1] in variables, "variable")
        return variables[expression[1]]
    if kind == "read":
        check_cell(expression[1], index_sort(expression[2], variables, cells), cells)
        return "amount"
    row = (kind, *[sort_of(part, variables, cells) for part in expression[1:]])
    require(row in OPERATIONS and not is_crooked(row, expression), "sort")
    return OPERATIONS[row]


def is_crooked(row, expression):
    """Whether an operation would make an amount that is not linear, or divide by 0/1."""
    if row not in (("*", "amount", "amount"), ("/", "amount", "amount")):
        return False
    kind, worth = expression[2][0], expression[2][1]
    return kind != "amount" or row[0] == "/" and worth.sign == 0


def index_sort(number, variables, cells):
    """The sort of the number of a cell of a row, None if there is none."""
    return None if number is None else sort_of(number, variables, cells)


def check_cell(name, number_sort, cells):
    """Raises a Flaw if there is no such cell, or if its number is not a count."""
    require(name in cells and (cells[name] is None) == (number_sort is None), "cell")
    require(number_sort is None or number_sort == "count", "sort")
