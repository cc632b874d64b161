"""[25] to [27] Runs on forms."""

import unittest

from cases import random_cases, value_at
from helpers import ODD_VALUES, check_error, check_same, form

from leastlog.amounts import Amount
from leastlog.conditions import Negative, NonPositive, NonZero, Zero
from leastlog.errors import InvalidArguments, InvalidCells, InvalidPath, Over
from leastlog.failures import UnknownProcedure
from leastlog.formruns import FormRun, symbol_of
from leastlog.forms import Form
from leastlog.moduletexts import read_module
from leastlog.programs import Program
from leastlog.runs import Run

HEADER = "module m\ncell c\ncells r 2\nprocedure hidden a:amount b:amount\n  return\n"
A, B = Form.symbol("a"), Form.symbol("b")


def program(body, header="export procedure p a:amount b:amount"):
    lines = "".join(f"  {line}\n" for line in body.splitlines())
    return Program(read_module(f"{HEADER}{header}\n{lines}"))


TESTS = program("let t = (a same b)\nlet u = (a less b)\nlet v = ((a * 2/1) less (b + @c))\nreturn")
LOOP = program("let n = 0\nwhile (a less b) up to 4\n  add c a\n  set a = (a + 1/1)\n  set n = (n + 1)\nreturn")


class SymbolTest(unittest.TestCase):
    def test_symbols(self):
        self.assertEqual([symbol_of(3, 1), symbol_of(run=0, position=5), symbol_of(10 ** 9, 0)], ["3.1", "0.5", "1000000000.0"])


class ConditionsTest(unittest.TestCase):
    def run_on(self, path, arguments=(A, B), cells=None, made=TESTS):
        run = FormRun(made, "m.p", arguments, path, cells)
        run.finish()
        return run

    def test_conditions_of_both_truths(self):
        cells = {"m.c": Form.of(1, z=2)}
        run = self.run_on([True, True, True], cells=cells)
        gap = form(-1, a=2, b=-1, z=-2)
        check_same(self, run.conditions(), [Zero(A - B), Negative(A - B), Negative(gap)])
        run = self.run_on([False, False, False], cells=cells)
        check_same(self, run.conditions(), [NonZero(A - B), NonPositive(B - A), NonPositive(-gap)])
        check_same(self, run.path(), [False] * 3)
        check_same(self, [event for event in run.trace() if event[0] == "test"], [("test", False)] * 3)

    def test_conditions_so_far(self):
        run = FormRun(TESTS, "m.p", [A, B], [True, False, True])
        found = [(run.conditions(), run.path())]
        while not run.is_over:
            run.step()
            found.append((run.conditions(), run.path()))
        conditions = [Zero(A - B), NonPositive(B - A), Negative(A * 2 - B)]
        check_same(self, found, [(conditions[:many], [True, False, True][:many]) for many in (0, 1, 2, 3, 3)])
        run.conditions().clear()
        check_same(self, run.conditions(), conditions)

    def test_forms_that_differ_by_a_constant(self):
        made = program("let t = (a less (a + 1/1))\nlet u = (a same (a - 1/2))\nlet v = (a less a)\nlet w = (a same a)\nreturn",
                       "export procedure p a:amount")
        right = [True, False, False, True]
        run = self.run_on(right, [form(3, x="1/2")], made=made)
        check_same(self, run.conditions(), [Negative(Form(-1)), NonZero(Form(Amount(1, 2))), NonPositive(Form(0)), Zero(Form(0))])
        for position in range(4):
            wrong = [*right[:position], not right[position], *right[position + 1:]]
            check_error(self, InvalidPath, {"position": position}, FormRun.traced, made, "m.p", [A], wrong)
            run = FormRun(made, "m.p", [A], wrong)
            check_error(self, InvalidPath, {"position": position}, run.finish)
            check_same(self, [run.stop_count, run.place], [position + 1, (("m.p", str(position), ()),)])
            check_same(self, run.path(), right[:position])

    def test_operations_on_forms(self):
        made = program("let x = (((a * 3) / 2) - (b * 1/3))\nlet y = (a / -2/3)\nput r[1] = (x + 5/1)\nadd r[1] y\n"
                       "return (@c + 1/1), (2/1 * 3/1), @r[0]", "export procedure p a:amount b:amount -> amount amount amount")
        run = self.run_on([], [A, form(1, b=1)], {"m.c": form(0, c=4)}, made)
        first = form("-1/3", a="3/2", b="-1/3")
        second = form("14/3", b="-1/3")
        check_same(self, run.trace()[2:], [
            ("stop", (("m.p", "2", ()),), ({"a": A, "b": form(1, b=1), "x": first, "y": form(0, a="-3/2")},)),
            ("write", "m.r.1", first + 5), ("stop", (("m.p", "3", ()),), ({"a": A, "b": form(1, b=1), "x": first,
                                                                        "y": form(0, a="-3/2")},)),
            ("read", "m.r.1", first + 5), ("write", "m.r.1", second),
            ("stop", (("m.p", "4", ()),), ({"a": A, "b": form(1, b=1), "x": first, "y": form(0, a="-3/2")},)),
            ("read", "m.c", form(0, c=4)), ("read", "m.r.0", Form(0)), ("gave", (form(1, c=4), Form(6), Form(0)))])
        check_same(self, [run.writes(), run.reads()], [{"m.r.1": second}, ["m", "m.c", "m.r.0"]])
        check_same(self, run.outcome, ("gave", (form(1, c=4), Form(6), Form(0))))

    def test_failures_on_forms(self):
        made = program("let x = (a / n)\nreturn x", "export procedure p a:amount n:count -> amount")
        check_same(self, FormRun(made, "m.p", [A, 0], []).finish(), ("failed", "zero"))
        check_same(self, FormRun(made, "m.p", [A, -2], []).finish(), ("gave", (form(0, a="-1/2"),)))
        made = program("let x = @r[n]\nreturn x", "export procedure p n:count -> amount")
        check_same(self, [FormRun(made, "m.p", [n], []).finish() for n in (2, -1, 1)],
                   [("failed", "row"), ("failed", "row"), ("gave", (Form(0),))])
        run = self.run_on([True] * 5, made=LOOP)
        check_same(self, [run.outcome, run.writes(), run.place, run.variables()], [("failed", "bound"), {}, None, ()])


class PathTest(unittest.TestCase):
    def test_paths_that_are_too_short(self):
        run = FormRun(LOOP, "m.p", [A, B], [True, True])
        check_error(self, InvalidPath, {"position": 2}, run.finish)
        check_same(self, [run.place, run.stop_count, run.path()], [(("m.p", "1.a.2", (1,)),), 8, [True, True]])
        before = [run.trace(), run.variables(), run.reads(), run.writes(), run.conditions(), run.outcome]
        for _ in range(2):
            check_error(self, InvalidPath, {"position": 2}, run.step)
            check_error(self, InvalidPath, {"position": 2}, list, run.walk())
        check_same(self, [run.trace(), run.variables(), run.reads(), run.writes(), run.conditions(), run.outcome], before)
        check_error(self, InvalidPath, {"position": 0}, FormRun.traced, LOOP, "m.p", [A, B], [])

    def test_a_step_that_cannot_be_done_leaves_nothing(self):
        made = program("let t = ((@c same a) or (@r[0] same @r[1]))\nreturn")
        run = FormRun(made, "m.p", [A, B], [True])
        check_error(self, InvalidPath, {"position": 1}, run.step)
        check_same(self, [run.trace(), run.reads(), run.path(), run.conditions()], [
            [("stop", (("m.p", "0", ()),), ({"a": A, "b": B},))], ["m"], [], []])

    def test_walks(self):
        run = FormRun(LOOP, "m.p", [A, B], [True, False])
        found = list(run.walk())
        self.assertEqual([place[0][1:] for place, _ in found],
                         [("0", ()), ("1", ()), ("1.a.0", (0,)), ("1.a.1", (0,)), ("1.a.2", (0,)), ("2", ())])
        check_same(self, found[5][1], ({"a": form(1, a=1), "b": B, "n": 1},))
        check_same(self, [run.is_over, list(run.walk())], [True, []])
        walk = FormRun(LOOP, "m.p", [A, B], [True]).walk()
        self.assertEqual([next(walk)[0][0][1] for _ in range(5)], ["0", "1", "1.a.0", "1.a.1", "1.a.2"])
        check_error(self, InvalidPath, {"position": 1}, next, walk)

    def test_paths_that_are_too_long(self):
        run = FormRun(TESTS, "m.p", [A, B], [True, False, True, False])
        check_same(self, [run.finish(), run.path()], [("gave", ()), [True, False, True]])
        check_error(self, Over, {}, run.step)
        for more in ([False], [True, False, True]):
            path = [True, False, True, *more]
            check_error(self, InvalidPath, {"position": 3}, FormRun.traced, TESTS, "m.p", [A, B], path)
        made = program("return")
        check_error(self, InvalidPath, {"position": 0}, FormRun.traced, made, "m.p", [A, B], [True])

    def test_paths_that_are_none(self):
        for value in ODD_VALUES:
            if not isinstance(value, (list, tuple)):
                check_error(self, InvalidPath, {"position": None}, FormRun, TESTS, "m.p", [A, B], value, 5)
                check_error(self, InvalidPath, {"position": None}, FormRun.traced, TESTS, "m.p", [A, B], value, 5)
        for value in (1, 0, None, "yes", [], Form(1)):
            for position in range(4):
                path = [*[True] * position, value, 1]
                check_error(self, InvalidPath, {"position": position}, FormRun, TESTS, "m.p", [A, B], path, 5)
                check_error(self, InvalidPath, {"position": position}, FormRun.traced, TESTS, "m.p", [A, B], tuple(path), 5)


class FormRunTest(unittest.TestCase):
    def test_only_forms_are_amounts(self):
        for value in (1, Amount(1), True, None, "a", [A]):
            for position in range(2):
                arguments = [A, value] if position else [value, None]
                check_error(self, InvalidArguments, {"position": position}, FormRun, TESTS, "m.p", arguments, 5, 5)
                check_error(self, InvalidArguments, {"position": position}, FormRun.traced, TESTS, "m.p", arguments, 5, 5)
            check_error(self, InvalidCells, {"key": "m.c"}, FormRun, TESTS, "m.p", [A, B], [], {"m.c": value, "m.r.0": A})
        for value in (5, [], "m.c", A):
            check_error(self, InvalidCells, {"key": None}, FormRun, TESTS, "m.p", [A, B], [], value)
        check_error(self, InvalidCells, {"key": "m.d"}, FormRun.traced, TESTS, "m.p", [A, B], [], {"m.d": A, "z": A})
        for value in (None, 5, [A], [A, B, A], {0: A, 1: B}):
            check_error(self, InvalidArguments, {"position": None}, FormRun, TESTS, "m.p", value, 5)
        for value in (*ODD_VALUES, 1, "m.q", "p", "m.hidden"):
            check_error(self, UnknownProcedure, {"name": value}, FormRun, TESTS, value, 5, 5, 5)
            check_error(self, UnknownProcedure, {"name": value}, FormRun.traced, TESTS, value, 5, 5, 5)

    def test_counts_and_truths_stay_what_they_are(self):
        made = program("return n, t, x", "export procedure p n:count t:truth x:amount -> count truth amount")
        check_same(self, FormRun(made, "m.p", [1, True, A], []).finish(), ("gave", (1, True, A)))
        check_error(self, InvalidArguments, {"position": 0}, FormRun, made, "m.p", [A, True, A], [])
        check_error(self, InvalidArguments, {"position": 1}, FormRun, made, "m.p", [1, 1, A], [])

    def test_clones(self):
        run = FormRun(LOOP, "m.p", [A, B], [True, True, False])
        for _ in range(6):
            run.step()
        other = run.clone()
        check_same(self, [other.trace(), other.conditions(), other.place, other.stop_count], [
            run.trace(), run.conditions(), run.place, 7])
        other.finish()
        check_same(self, [run.stop_count, run.path(), len(run.conditions())], [7, [True, True], 2])
        run.finish()
        check_same(self, [run.trace(), run.conditions(), run.path()], [other.trace(), other.conditions(), other.path()])
        check_same(self, run.outcome, ("gave", ()))

    def test_passed_and_returned_values_are_apart(self):
        arguments, path, cells = [A, B], [True, False, True], {"m.c": A}
        run = FormRun(program=TESTS, procedure="m.p", arguments=arguments, path=path, cells=cells)
        whole = FormRun.traced(program=TESTS, procedure="m.p", arguments=tuple(arguments), path=tuple(path), cells=cells)
        arguments.clear(), path.clear(), cells.clear()
        other = run.clone()
        for one in (run, other, other.clone()):
            one.finish()
            check_same(self, one.trace(), whole)
        for found in (run.trace(), run.path(), run.conditions(), run.reads(), run.writes()):
            found.clear()
        check_same(self, run.trace(), whole)
        check_same(self, run.conditions()[2], Negative(A - B))

    def test_cells_that_are_lacking_are_0(self):
        run = FormRun(LOOP, "m.p", [A, B], [True, False], {"m.r.0": B})
        run.finish()
        check_same(self, run.writes(), {"m.c": A})
        check_same(self, isinstance(FormRun.traced(LOOP, "m.p", [A, B], [False])[-1], tuple), True)


class FactsTest(unittest.TestCase):
    def test_random_runs(self):
        tested = 0
        for case in random_cases(25, 400):
            run = FormRun(case.program, case.text, case.form_arguments, case.run.path(), case.form_cells)
            run.finish()
            check_same(self, run.trace(), FormRun.traced(case.program, case.text, case.form_arguments, case.run.path(),
                                                         case.form_cells))
            self.assertTrue(all(condition.holds_at(case.point) for condition in run.conditions()))
            self.assertEqual(len(run.conditions()), len(run.path()))
            check_same(self, value_at(run.trace(), case.point), case.run.trace())
            check_same(self, [run.reads(), value_at(run.writes(), case.point)], [case.run.reads(), case.run.writes()])
            tested += self.check_other_points(case, run)
        self.assertGreater(tested, 20)

    def check_other_points(self, case, run):
        """At other points the plain run has the path exactly if all conditions hold."""
        found = 0
        for shift in (1, -3, Amount(1, 7)):
            point = {symbol: amount + shift for symbol, amount in case.point.items()}
            arguments = [value_at(one, point) for one in case.form_arguments]
            cells = {cell: one.value_at(point) for cell, one in case.form_cells.items()}
            plain = Run(case.program, case.text, arguments, cells)
            plain.finish()
            holds = all(condition.holds_at(point) for condition in run.conditions())
            self.assertEqual(plain.path() == run.path(), holds)
            if holds:
                check_same(self, plain.trace(), value_at(run.trace(), point))
            found += not holds
        return found

    def test_runs_one_after_another_on_one_store(self):
        made = program("add c (a * 2/1)\nif (@c less b)\n  put r[0] = @c\nelse\n  add r[1] (b - a)\nreturn")
        symbols = [[Form.symbol(symbol_of(run, at)) for at in range(2)] for run in range(4)]
        store, forms = {}, {}
        point = {}
        for number, values in enumerate(([1, 5], [2, 4], [Amount(-1, 2), 9], [3, 3])):
            amounts = [Amount(1) * value for value in values]
            point.update({symbol_of(number, at): amount for at, amount in enumerate(amounts)})
            run = Run(made, "m.p", amounts, store)
            run.finish()
            on_forms = FormRun(made, "m.p", symbols[number], run.path(), forms)
            on_forms.finish()
            store.update(run.writes())
            forms.update(on_forms.writes())
            self.assertTrue(all(condition.holds_at(point) for condition in on_forms.conditions()))
            check_same(self, value_at(on_forms.trace(), point), run.trace())
        check_same(self, value_at(forms, point), store)
        check_same(self, sorted(forms["m.c"].symbols()), ["0.0", "1.0", "2.0", "3.0"])


if __name__ == "__main__":
    unittest.main()
