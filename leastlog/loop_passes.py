"""Passes about loops."""

from leastlog.coderows import LOOPS, PLAIN, entered_by, lists_of, set_by, used_by, with_lists
from leastlog.codes import Code


def hoist(code):
    """The code with those plain rows ahead of a loop that use nothing of it."""
    return Code(code.procedure_text, code.parameters, hoisted(code.rows))


def hoisted(rows):
    """The rows of a list, those that its loops do not need to do in each turn ahead of them."""
    found = []
    for row in rows:
        lists = [hoisted(inner) for inner in lists_of(row)]
        if row[0] in LOOPS:
            parted = [parted_rows(inner, entered_by(row)) for inner in lists]
            for loose, _ in parted:
                found.extend(loose)
            lists = [tuple(bound) for _, bound in parted]
        found.append(with_lists(row, lists))
    return tuple(found)


def parted_rows(rows, entered):
    """The plain rows of a list of a loop that use nothing set in it, and the others."""
    inside = {value: True for value in entered}
    loose, bound = [], []
    for row in rows:
        if row[0] in PLAIN and not any([value in inside for value in used_by(row)]):
            loose.append(row)
        else:
            bound.append(row)
            inside.update({value: True for value in set_by(row)})
    return loose, bound
