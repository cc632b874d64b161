"""What [28], [29] and [32] say of codes, written from these points alone."""

from leastlog.amounts import Amount
from leastlog.systems import form_rank

PLAIN = ("form", "scale", "known", "op")


def tolds_of(row):
    """The tolds of a stop row."""
    return [told for frame in row[2] for _, told in frame]


def told_values(told):
    if told[0] == "form":
        return [value for value, _ in told[2]]
    return [told[1]] if told[0] == "value" else []


def uses(row):
    """The values that a row uses itself, but for those begun or behind a list."""
    kind = row[0]
    return {
        "form": lambda: [value for value, _ in row[3]], "scale": lambda: row[2:], "share": lambda: row[2:],
        "known": lambda: [], "op": lambda: row[3], "test": lambda: row[3:],
        "read": lambda: [] if row[3] is None else [row[3]],
        "write": lambda: [row[3]] if row[2] is None else [row[2], row[3]], "call": lambda: row[3],
        "stop": lambda: [value for told in tolds_of(row) for value in told_values(told)], "give": lambda: row[1],
        "if": lambda: [row[1]], "repeat": lambda: [row[1]], "while": lambda: [row[5]],
    }[kind]()


def sets(row):
    """The values that a row sets for those behind it."""
    if row[0] == "call":
        return [value for value, _ in row[1]]
    if row[0] in ("if", "repeat", "while"):
        return list(row[-1])
    return [] if row[0] in ("write", "stop", "give") else [row[1]]


def inner(row):
    """The tuples (rows, values behind them, values set at their beginning) of the lists of a row."""
    if row[0] == "if":
        return [(row[2], row[3], ()), (row[4], row[5], ())]
    if row[0] == "repeat":
        return [(row[5], row[6], (row[2], *row[3]))]
    return [(row[4], (row[5],), row[2]), (row[6], row[7], row[2])] if row[0] == "while" else []


def begun(row):
    """The values with which the parameters of a loop begin."""
    return row[4] if row[0] == "repeat" else row[3] if row[0] == "while" else ()


def each_row(rows, around=()):
    """All rows, each with the rows around it, the outermost one first."""
    for row in rows:
        yield row, around
        for part, _, _ in inner(row):
            yield from each_row(part, (*around, row))


def each_list(code):
    """All lists of rows, each with the loops around it."""
    yield code.rows, ()
    for row, around in each_row(code.rows):
        for part, _, _ in inner(row):
            yield part, tuple(one for one in (*around, row) if one[0] != "if")


class CodeCheck:
    """Fails unless a code is as in [28] and [29]."""

    def __init__(self, case, code):
        self.case = case
        self.sorts = {}
        scope = set()
        for value, sort in code.parameters:
            self.set(value, sort, scope)
        self.check_list(code.rows, scope, 0)
        ends = [row for row, _ in each_row(code.rows) if row[0] == "give"]
        case.assertEqual(ends, [code.rows[-1]])

    def set(self, value, sort, scope):
        self.case.assertIs(type(value), int)
        self.case.assertGreaterEqual(value, 0)
        self.case.assertNotIn(value, self.sorts)
        self.sorts[value] = sort
        scope.add(value)

    def use(self, values, sorts, scope):
        """Fails unless values are set and of these sorts, if they are told."""
        for value in values:
            self.case.assertIn(value, scope)
        if sorts is not None:
            self.case.assertEqual([self.sorts[value] for value in values], list(sorts))

    def check_list(self, rows, scope, loops):
        self.case.assertIs(type(rows), tuple)
        for row in rows:
            self.case.assertIs(type(row), tuple)
            getattr(self, "check_" + row[0])(row, scope, loops)

    def check_parts(self, constant, parts, scope):
        self.case.assertIs(type(parts), tuple)
        self.case.assertIs(type(constant), Amount)
        self.use([value for value, _ in parts], ["amount"] * len(parts), scope)
        self.case.assertEqual([value for value, _ in parts], sorted({value for value, _ in parts}))
        self.case.assertTrue(all(weight.sign for _, weight in parts))

    def check_form(self, row, scope, loops):
        self.check_parts(row[2], row[3], scope)
        self.set(row[1], "amount", scope)

    def check_scale(self, row, scope, loops):
        self.use(row[2:], ["amount", "count"], scope)
        self.set(row[1], "amount", scope)

    check_share = check_scale

    def check_known(self, row, scope, loops):
        self.case.assertIn(type(row[2]), (int, bool))
        self.set(row[1], "truth" if type(row[2]) is bool else "count", scope)

    def check_op(self, row, scope, loops):
        taken = "truth" if row[2] in ("and", "or", "not") else "count"
        self.use(row[3], [taken] * (1 if row[2] == "not" else 2), scope)
        self.set(row[1], "count" if row[2] in ("+", "-", "*") else "truth", scope)

    def check_test(self, row, scope, loops):
        self.case.assertIn(row[2], ("same", "less"))
        self.use(row[3:], ["amount"] * 2, scope)
        self.set(row[1], "truth", scope)

    def check_read(self, row, scope, loops):
        self.use(uses(row), ["count"] * len(uses(row)), scope)
        self.set(row[1], "amount", scope)

    def check_write(self, row, scope, loops):
        self.use(uses(row), ["count", "amount"][2 - len(uses(row)):], scope)

    def check_call(self, row, scope, loops):
        self.use(row[3], None, scope)
        for value, sort in row[1]:
            self.set(value, sort, scope)

    def check_stop(self, row, scope, loops):
        self.case.assertEqual(len(row[1]), len(row[2]))
        for part in (row[1], row[2], *row[1], *row[2], *[pair for frame in row[2] for pair in frame]):
            self.case.assertIs(type(part), tuple)
        self.case.assertEqual(sum(depth for _, _, depth in row[1]), loops)
        for told in tolds_of(row):
            if told[0] == "form":
                self.check_parts(told[1], told[2], scope)
            elif told[0] == "value":
                self.use([told[1]], None, scope)
                self.case.assertNotEqual(self.sorts[told[1]], "amount")
            else:
                self.case.assertIn(type(told[1]), (int, bool))

    def check_if(self, row, scope, loops):
        self.use([row[1]], ["truth"], scope)
        for rows, values, _ in inner(row):
            within = set(scope)
            self.check_list(rows, within, loops)
            self.use(values, None, within)
        self.case.assertEqual([self.sorts[value] for value in row[3]], [self.sorts[value] for value in row[5]])
        self.join(row[6], row[3], scope)

    def join(self, joined, values, scope):
        self.case.assertEqual(len(joined), len(values))
        for value, other in zip(joined, values):
            self.set(value, self.sorts[other], scope)

    def check_repeat(self, row, scope, loops):
        self.use([row[1]], ["count"], scope)
        self.check_loop(row, scope, loops, {row[2]: "count"})

    def check_while(self, row, scope, loops):
        self.case.assertTrue(1 <= row[1] <= 100)
        self.check_loop(row, scope, loops, {})

    def check_loop(self, row, scope, loops, turn):
        self.use(begun(row), None, scope)
        within = set(scope)
        for value, sort in turn.items():
            self.set(value, sort, within)
        parameters = row[3] if turn else row[2]
        self.join(parameters, begun(row), within)
        for rows, values, _ in inner(row):
            own = set(within)
            self.check_list(rows, own, loops + 1)
            self.use(values, None, own)
        self.case.assertEqual([self.sorts[value] for value in row[-2]], [self.sorts[value] for value in parameters])
        self.join(row[-1], parameters, scope)

    def check_give(self, row, scope, loops):
        self.use(row[1], None, scope)


def form_values(code):
    return {row[1] for row, _ in each_row(code.rows) if row[0] == "form"}


def copies(code):
    return {row[1] for row, _ in each_row(code.rows)
            if row[0] == "form" and row[2] == Amount(0) and len(row[3]) == 1 and row[3][0][1] == Amount(1)}


def is_spread(code):
    formed, copied = form_values(code), copies(code)
    for row, _ in each_row(code.rows):
        over = uses(row) if row[0] == "form" else []
        if row[0] == "stop":
            over = [value for told in tolds_of(row) for value in told_values(told)]
        if any(value in formed for value in over):
            return False
        values = [value for _, behind, _ in inner(row) for value in behind]
        if any(value in copied for value in [*uses(row), *begun(row), *values]):
            return False
    return True


def is_folded(code):
    known = {}
    for row, _ in each_row(code.rows):
        if row[0] == "known":
            known[row[1]] = row[2]
    for row, _ in each_row(code.rows):
        if row[0] == "op" and all(value in known for value in row[3]):
            return False
        if row[0] == "scale" and row[3] in known or row[0] == "if" and row[1] in known:
            return False
        if row[0] == "stop" and any(told[0] == "value" and told[1] in known for told in tolds_of(row)):
            return False
        if row[0] == "while" and known.get(row[5], True) is False or row[0] == "repeat" and known.get(row[1], 1) < 1:
            return False
    return True


def is_shared(code):
    def deed(row):
        return repr((row[0], row[2:]))

    def check(rows, earlier):
        earlier = set(earlier)
        for row in rows:
            if row[0] in (*PLAIN, "share"):
                if deed(row) in earlier:
                    return False
                earlier.add(deed(row))
            if not all(check(part, earlier) for part, _, _ in inner(row)):
                return False
        return True
    return check(code.rows, ())


def is_dropped(code):
    needed = set()
    rows = [row for row, _ in each_row(code.rows)]
    for row in rows:
        if row[0] not in PLAIN:
            needed.update(uses(row))
    before = None
    while before != len(needed):
        before = len(needed)
        for row in rows:
            if row[0] in PLAIN and row[1] in needed:
                needed.update(uses(row))
            for at, joined in enumerate(row[-1] if inner(row) else ()):
                needed.update(what_can_be(row, at, joined in needed, needed))
    for row in rows:
        if row[0] in PLAIN and row[1] not in needed:
            return False
        if row[0] == "if" and not needed.issuperset(row[6]):
            return False
        if begun(row):
            parameters = row[3] if row[0] == "repeat" else row[2]
            if not all(one in needed or other in needed for one, other in zip(parameters, row[-1])):
                return False
    return True


def what_can_be(row, at, is_joined_needed, needed):
    """What a needed joined value or parameter at a position can be."""
    if row[0] == "if":
        return [row[3][at], row[5][at]] if is_joined_needed else []
    parameter = row[3][at] if row[0] == "repeat" else row[2][at]
    if row[0] == "while" and is_joined_needed:
        return [parameter, begun(row)[at], row[-2][at]]
    return [begun(row)[at], row[-2][at]] if is_joined_needed or parameter in needed else []


def is_least_asked(code):
    amounts = {value: code.form_over_leaves(value) for row, _ in each_row(code.rows) if row[0] == "stop"
               for told in tolds_of(row) if told[0] == "form" for value in told_values(told)}
    for row, _ in each_row(code.rows):
        if row[0] == "stop":
            tolds = [told for told in tolds_of(row) if told[0] == "form"]
            forms = []
            for _, constant, parts in tolds:
                total = amounts_sum(constant, parts, amounts)
                if total is not None:
                    forms.append(total)
            if form_rank(forms) != len({value for told in tolds for value in told_values(told)}):
                return False
    return True


def amounts_sum(constant, parts, forms):
    """The form over leaves of a told; None for a constant."""
    total = None
    for value, weight in parts:
        part = forms[value] * weight
        total = part if total is None else total + part
    return None if total is None else total + constant


def is_hoisted(code):
    for row, _ in each_row(code.rows):
        if row[0] in ("repeat", "while"):
            within = {value for part, _, entered in inner(row) for value in entered}
            for part, _, _ in inner(row):
                within.update(value for one, _ in each_row(part) for value in sets(one))
                within.update(value for one, _ in each_row(part) for _, _, entered in inner(one) for value in entered)
            for part, _, _ in inner(row):
                if any(one[0] in PLAIN and not within.intersection(uses(one)) for one in part):
                    return False
    return True


CHECKS = {"spread": is_spread, "fold": is_folded, "share": is_shared, "drop": is_dropped, "ask": is_least_asked,
          "hoist": is_hoisted}
