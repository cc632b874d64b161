"""The pass that lets each stop ask for as few amounts as tell what it shows."""

from leastlog.coderows import asked_by, merged
from leastlog.codes import form_of_sum, forms_over_leaves, unused_value
from leastlog.rewriting import Rewriter
from leastlog.systems import Telling


class Asking(Rewriter):
    """Lets each stop ask for as few amounts as its shown amounts have rank."""

    def __init__(self, code):
        Rewriter.__init__(self)
        self._forms = forms_over_leaves(code)
        self._unused = unused_value(code)

    def replacing(self, row):
        """The row; in the place of a stop perhaps form rows, and a stop that asks for as few amounts as possible."""
        if row[0] != "stop":
            return [self.with_names(row)]
        tolds = [told for frame in row[2] for _, told in frame if told[0] == "form"]
        asked = sorted({value: True for told in tolds for value in asked_by(told)})
        shown = [form_of_sum(told[1], told[2], self._forms) for told in tolds]
        rows, values, base = self._base(tolds, shown, asked)
        told_anew = [told_by(base.weights_of(form), values) for form in shown]
        return [*rows, ("stop", row[1], with_tolds(row[2], told_anew))]

    def _base(self, tolds, shown, asked):
        """Rows for new values, values that tell all that is shown, none told by the others, and their forms."""
        rows, values = [], []
        span, base = Telling(shown), Telling([])
        for value in asked:
            form = self._forms[value]
            if span.tells(form) and not base.tells(form):
                base.include(form)
                values.append(value)
        for told, form in zip(tolds, shown):
            if not base.tells(form):
                base.include(form)
                values.append(self._unused)
                rows.append(("form", self._unused, told[1], told[2]))
                self._unused = self._unused + 1
        return rows, values, base


def told_by(combined, values):
    """The told of a constant plus weights times values."""
    constant, weights = combined
    return "form", constant, merged(list(zip(values, weights)))


def with_tolds(shown, tolds):
    """What is shown with other tolds of the amounts, in sequence."""
    found = []
    left = list(reversed(tolds))
    for frame in shown:
        found.append(tuple([(name, left.pop() if told[0] == "form" else told) for name, told in frame]))
    return tuple(found)
