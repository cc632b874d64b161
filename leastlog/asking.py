"""The pass that lets each stop ask for as few amounts as tell what it shows."""

from leastlog.coderows import asked_by, merged
from leastlog.codes import form_of_sum, forms_over_leaves, unused_value
from leastlog.rewriting import Rewriter
from leastlog.systems import Telling


class Asking(Rewriter):
    """Lets each stop ask for as few amounts as its shown amounts have rank."""

    def __init__(self, code):
        Rewriter.__init__(self)
        self._forms = forms_over_leaves(code)
        self._unused = unused_value(code)

    def replacing(self, row):
        """The row; of a stop that asks for too many amounts, form rows and a stop that asks for fewer."""
        if row[0] != "stop":
            return [self.with_names(row)]
        tolds = [told for frame in row[2] for _, told in frame if told[0] == "form"]
        asked = sorted({value: True for told in tolds for value in asked_by(told)})
        shown = [form_of_sum(told[1], told[2], self._forms) for told in tolds]
        if Telling(shown).rank() == len(asked):
            return [row]
        rows, values = self._base(tolds, shown, asked)
        telling = Telling([self._forms[value] for value in values])
        frames = [tuple([(name, self._told(told, telling, values)) for name, told in frame]) for frame in row[2]]
        return [*rows, ("stop", row[1], tuple(frames))]

    def _base(self, tolds, shown, asked):
        """Values that tell all shown amounts, none told by the others, and the rows for those of them that are new."""
        span = Telling(shown)
        base = Telling([])
        values = []
        for value in asked:
            form = self._forms[value]
            if span.tells(form) and base.adds(form):
                values.append(value)
        rows = []
        for told, form in zip(tolds, shown):
            if base.adds(form):
                rows.append(("form", self._unused, told[1], told[2]))
                self._forms[self._unused] = form
                values.append(self._unused)
                self._unused = self._unused + 1
        return rows, values

    def _told(self, told, telling, values):
        """The told of the same amount by a base."""
        if told[0] != "form":
            return told
        constant, weights = telling.weights_of(form_of_sum(told[1], told[2], self._forms))
        return "form", constant, merged(list(zip(values, weights)))
