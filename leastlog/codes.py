"""Codes of procedures, as rows that set values."""

from leastlog.coderows import LOOPS, all_rows, entered_by, lists_of, loop_parts, renamed_rows, set_by, used_by
from leastlog.failures import UnknownPath, UnknownValue
from leastlog.forms import Form
from leastlog.kinds import alike, is_whole

# The rows that set an amount.
AMOUNT_ROWS = ("form", "scale", "share", "read")


class Code:
    """The code of a procedure. Codes never change."""

    def __init__(self, procedure, parameters, rows):
        self.procedure_text = procedure
        self.parameters = parameters
        self.rows = rows
        # The forms over leaves, as soon as one is asked for.
        self._forms = None

    def asked(self, path):
        """The ascending list of the asked values of the stop row with this path."""
        row = row_at(self.rows, path)
        if row is None or row[0] != "stop":
            raise UnknownPath(path)
        return asked_at(row)

    def form_over_leaves(self, value):
        """The form over leaves of an amount."""
        if self._forms is None:
            self._forms = forms_over_leaves(self)
        if not is_whole(value) or value not in self._forms:
            raise UnknownValue(value)
        return self._forms[value]

    def renumbered(self):
        """The code with its values numbered in the sequence in which they are set."""
        values = [*[value for value, _ in self.parameters], *values_set_in(self.rows)]
        names = {value: number for number, value in enumerate(values)}
        parameters = tuple([(names[value], sort) for value, sort in self.parameters])
        return Code(self.procedure_text, parameters, renamed_rows(self.rows, names))

    def __eq__(self, other):
        return (isinstance(other, Code) and self.procedure_text == other.procedure_text
                and alike(self.parameters, other.parameters) and alike(self.rows, other.rows))

    def __len__(self):
        return len(all_rows(self.rows))

    def __repr__(self):
        return f"Code({self.procedure_text!r}, {len(all_rows(self.rows))})"


def row_at(rows, path):
    """The row with any value as its path; None if there is no such row."""
    if not isinstance(path, tuple) or len(path) == 0:
        return None
    rows = list_at(rows, path[:-1])
    return rows[path[-1]] if rows is not None and is_position(path[-1], rows) else None


def list_at(rows, path):
    """The list of rows with any value as its path, which ends with the number of a list; None if there is none."""
    if not isinstance(path, tuple) or len(path) % 2 == 1:
        return None
    for position, number in zip(path[::2], path[1::2]):
        lists = lists_of(rows[position]) if is_position(position, rows) else []
        if not is_position(number, lists):
            return None
        rows = lists[number]
    return rows


def is_position(value, rows):
    """Whether any value is a position in a list."""
    return is_whole(value) and 0 <= value < len(rows)


def asked_at(row):
    """The ascending list of the asked values of a stop row."""
    return sorted({value: True for value in used_by(row)})


def values_set_in(rows):
    """The list of all values that rows set, in the sequence in which they set them."""
    found = []
    for row in rows:
        found.extend(entered_by(row))
        for inner in lists_of(row):
            found.extend(values_set_in(inner))
        found.extend(set_by(row))
    return found


def unused_value(code):
    """The least number from which on no value of the code has a number."""
    return 1 + max([value for value, _ in code.parameters] + values_set_in(code.rows), default=-1)


def forms_over_leaves(code):
    """The dict from all amounts of the code to their forms over leaves."""
    amounts = {value: True for value, sort in code.parameters if sort == "amount"}
    add_amounts(code.rows, amounts)
    forms = {value: Form.symbol(f"v{value}") for value in amounts}
    for row in all_rows(code.rows):
        if row[0] == "form":
            forms[row[1]] = form_of_sum(row[2], row[3], forms)
    return forms


def add_amounts(rows, amounts):
    """Adds the amounts that rows set."""
    for row in rows:
        if row[0] in LOOPS:
            parameters, begun, _, joined = loop_parts(row)
            add_copies([*parameters, *joined], [*begun, *begun], amounts)
        for inner in lists_of(row):
            add_amounts(inner, amounts)
        if row[0] == "if":
            add_copies(row[6], row[3], amounts)
        elif row[0] == "call":
            amounts.update({value: True for value, sort in row[1] if sort == "amount"})
        elif row[0] in AMOUNT_ROWS:
            amounts[row[1]] = True


def add_copies(values, others, amounts):
    """Adds those values that are what others, which are amounts, are."""
    for value, other in zip(values, others):
        if other in amounts:
            amounts[value] = True


def form_of_sum(constant, parts, forms):
    """The form that is a constant plus weights times the forms of amounts."""
    total = constant
    weights = {}
    for value, weight in parts:
        total = total + forms[value].constant_part * weight
        for symbol, share in forms[value].terms():
            more = share * weight
            weights[symbol] = weights[symbol] + more if symbol in weights else more
    return Form(total, weights)
