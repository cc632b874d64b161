"""Codes of procedures, as rows that set values."""

from leastlog.coderows import all_rows, entered_by, lists_of, loop_parts, renamed_rows, set_by, used_by
from leastlog.failures import UnknownPath, UnknownValue
from leastlog.forms import Form
from leastlog.kinds import alike, is_whole

TRUTH_WORDS = ("is", "below", "and", "or", "not")


class Code:
    """The code of a procedure. Codes never change."""

    def __init__(self, procedure, parameters, rows):
        self.procedure_text = procedure
        self.parameters = parameters
        self.rows = rows
        # The forms over leaves, as soon as one is asked for.
        self._forms = None

    def asked(self, path):
        """The ascending list of the asked values of the stop row with this path."""
        row = row_at(self.rows, path)
        if row is None or row[0] != "stop":
            raise UnknownPath(path)
        return asked_at(row)

    def form_over_leaves(self, value):
        """The form over leaves of an amount."""
        if self._forms is None:
            self._forms = forms_over_leaves(self)
        if not is_whole(value) or value not in self._forms:
            raise UnknownValue(value)
        return self._forms[value]

    def renumbered(self):
        """The code with its values numbered in the sequence in which they are set."""
        values = [*[value for value, _ in self.parameters], *values_set_in(self.rows)]
        names = {value: number for number, value in enumerate(values)}
        parameters = tuple([(names[value], sort) for value, sort in self.parameters])
        return Code(self.procedure_text, parameters, renamed_rows(self.rows, names))

    def __eq__(self, other):
        return (isinstance(other, Code) and self.procedure_text == other.procedure_text
                and alike(self.parameters, other.parameters) and alike(self.rows, other.rows))

    def __len__(self):
        return len(all_rows(self.rows))

    def __repr__(self):
        return f"Code({self.procedure_text!r}, {len(all_rows(self.rows))})"


def row_at(rows, path):
    """The row with any value as its path; None if there is no such row."""
    if not isinstance(path, tuple) or len(path) == 0:
        return None
    rows = list_at(rows, path[:-1])
    return rows[path[-1]] if rows is not None and is_position(path[-1], rows) else None


def list_at(rows, path):
    """The list of rows with any value as its path, which ends with the number of a list; None if there is none."""
    if not isinstance(path, tuple) or len(path) % 2 == 1:
        return None
    for position, number in zip(path[::2], path[1::2]):
        lists = lists_of(rows[position]) if is_position(position, rows) else []
        if not is_position(number, lists):
            return None
        rows = lists[number]
    return rows


def is_position(value, rows):
    """Whether any value is a position in a list."""
    return is_whole(value) and 0 <= value < len(rows)


def asked_at(row):
    """The ascending list of the asked values of a stop row."""
    return sorted({value: True for value in used_by(row)})


def values_set_in(rows):
    """The list of all values that rows set, in the sequence in which they set them."""
    found = []
    for row in rows:
        found.extend(list(entered_by(row)))
        for inner in lists_of(row):
            found.extend(values_set_in(inner))
        found.extend(list(set_by(row)))
    return found


def unused_value(code):
    """The least number from which on no value of the code has a number."""
    return 1 + max([value for value, _ in code.parameters] + values_set_in(code.rows), default=-1)


def sorts_of(code):
    """The dict from all values of the code to their sorts."""
    sorts = {value: sort for value, sort in code.parameters}
    add_sorts(code.rows, sorts)
    return sorts


def add_sorts(rows, sorts):
    """Adds the sorts of the values that rows set."""
    for row in rows:
        kind = row[0]
        if kind in ("repeat", "while"):
            parameters, begun, _, joined = loop_parts(row)
            if kind == "repeat":
                sorts[row[2]] = "count"
            for parameter, value, behind in zip(parameters, begun, joined):
                sorts[parameter] = sorts[behind] = sorts[value]
        for inner in lists_of(row):
            add_sorts(inner, sorts)
        if kind == "if":
            for value, behind in zip(row[3], row[6]):
                sorts[behind] = sorts[value]
        elif kind == "call":
            for value, sort in row[1]:
                sorts[value] = sort
        elif kind not in ("repeat", "while"):
            for value in set_by(row):
                sorts[value] = sort_set_by(row)


def sort_set_by(row):
    """The sort of the value that a row without lists sets."""
    if row[0] in ("form", "scale", "share", "read"):
        return "amount"
    if row[0] == "known":
        return "truth" if isinstance(row[2], bool) else "count"
    return "truth" if row[0] == "test" or row[2] in TRUTH_WORDS else "count"


def forms_over_leaves(code):
    """The dict from all amounts of the code to their forms over leaves."""
    sorts = sorts_of(code)
    forms = {value: Form.symbol(f"v{value}") for value in sorts if sorts[value] == "amount"}
    for row in all_rows(code.rows):
        if row[0] == "form":
            forms[row[1]] = form_of_sum(row[2], row[3], forms)
    return forms


def form_of_sum(constant, parts, forms):
    """The form that is a constant plus weights times the forms of amounts."""
    total = constant
    weights = {}
    for value, weight in parts:
        total = total + forms[value].constant_part * weight
        for symbol, share in forms[value].terms():
            more = share * weight
            weights[symbol] = weights[symbol] + more if symbol in weights else more
    return Form(total, weights)
