"""[30] Runs of codes."""

import unittest
from random import Random

from cases import other_paths, outcome_of, random_cases
from helpers import ODD_VALUES, check_error, check_same

from leastlog.amounts import Amount
from leastlog.codes import Code
from leastlog.coderuns import parting, run_code
from leastlog.errors import InvalidArguments, InvalidCells, InvalidPath
from leastlog.failures import UnknownProcedure
from leastlog.formruns import FormRun
from leastlog.forms import Form
from leastlog.moduletexts import read_module
from leastlog.programs import Program
from leastlog.runs import Run
from leastlog.translating import book_of

BANK = """module bank
cell vault
procedure half a:amount -> amount
  let b = (a / 2)
  return b
export procedure take a:amount n:count -> amount truth
  repeat n as turn
    call h = half(a)
    add vault h
  return @vault, (n below 3)
"""
A, B = Form.symbol("a"), Form.symbol("b")
ONE, ZERO = Amount(1), Amount(0)


def program(body, header="export procedure p a:amount b:amount n:count t:truth", more=""):
    lines = "".join(f"  {line}\n" for line in body.splitlines())
    text = f"module m\nimport bank\ncell c\ncells r 3\n{more}{header}\n{lines}"
    return Program(read_module(text), read_module(BANK))


class TracesTest(unittest.TestCase):
    def check(self, body, arguments, cells=None, **options):
        """The code has the trace of the plain run, and of the run on forms."""
        made = program(body, **options)
        book = book_of(made)
        run = Run(made, "m.p", arguments, cells)
        run.finish()
        check_same(self, run_code(made, book, "m.p", arguments, cells), run.trace())
        forms = [Form.symbol(f"x{at}") if isinstance(one, Amount) else one for at, one in enumerate(arguments)]
        try:
            trace = FormRun.traced(made, "m.p", forms, run.path())
        except InvalidPath as error:
            check_error(self, InvalidPath, {"position": error.position}, run_code, made, book, "m.p", forms, path=run.path())
        else:
            check_same(self, run_code(made, book, "m.p", forms, path=run.path()), trace)
        return run

    def check_sorts(self, body, **options):
        outcomes = []
        for number in (-1, 0, 1, 3):
            for truth in (True, False):
                arguments = [Amount(number, 2), Amount(3), number, truth]
                outcomes.append(self.check(body, arguments, {"m.c": Amount(2), "m.r.1": Amount(-1)}, **options).outcome)
        return outcomes

    def test_every_row(self):
        self.check_sorts("let x = ((a * n) + (b / 2))\nlet k = (n - 3)\nadd c (x + @r[1])\nput r[0] = @c\n"
                         "if ((a less b) and (not t))\n  set x = (x - 1/2)\nelse\n  set k = (k + 1)\nput r[1] = x\n"
                         "repeat k as i\n  set a = (a + @r[i])\nwhile (a less 20/1) up to 40\n  add c a\n  set a = (a + 3/1)\n"
                         "call y, u = bank.take(a, k)\nput r[2] = y\nreturn")

    def test_calls_in_loops(self):
        more = "procedure q x:amount k:count -> amount\n  repeat k as j\n    call y, s = bank.take(x, j)\n    add c y\n  return @c\n"
        run = self.check("repeat n as i\n  repeat i as j\n    call y = q(a, i)\n    set a = (y + b)\nreturn",
                         [ONE, Amount(2), 3, True], more=more)
        rounds = [tuple(frame[2] for frame in event[1]) for event in run.trace() if event[0] == "stop"]
        self.assertEqual(len(rounds), 45)
        self.assertIn(((2, 1), (1,), (0,), ()), rounds)

    def test_failures(self):
        for body, word in (("let x = (a / n)\nreturn", "zero"), ("put r[n] = (b / (n * n))\nreturn", "zero"),
                           ("let x = @r[(n + 4)]\nreturn", "row"), ("put r[(n - 1)] = a\nreturn", "row"),
                           ("add r[(n + 3)] @c\nreturn", "row"), ("while (n below 9) up to 3\n  set n = (n + 1)\nreturn", "bound"),
                           ("while t up to 2\nreturn", "bound"), ("call x, u = bank.take((a / n), 1)\nreturn", "zero")):
            run = self.check(f"put c = a\n{body}", [ONE, ONE, 0, True])
            check_same(self, run.outcome, ("failed", word))
        big = "set n = 9\nrepeat 18 as i\n  set n = (n * n)\nlet x = @r[n]\nreturn"
        made = program(big)
        check_same(self, run_code(made, book_of(made), "m.p", [ONE, ONE, 0, True])[-1], ("failed", "row"))

    def test_turns(self):
        body = f"repeat {10 ** 29} as i\nrepeat -{10 ** 29} as j\n  put c = a\nrepeat n as k\n  set n = 7\n  put r[k] = b\n" \
               "while no up to 3\n  put c = a\nreturn"
        check_same(self, self.check(body, [ONE, ONE, 3, True]).outcome, ("gave", ()))
        self.check_sorts("let x = 0\nlet y = 1\nrepeat n as i\n  let z = x\n  set x = y\n  set y = (z + y)\nput c = (a * y)\nreturn")

    def test_random_runs(self):
        random = Random(300)
        invalid = 0
        for case in random_cases(30, 120):
            book = book_of(case.program)
            check_same(self, run_code(case.program, book, case.text, case.arguments, case.cells), case.run.trace())
            path = case.run.path()
            trace = FormRun.traced(case.program, case.text, case.form_arguments, path, case.form_cells)
            found = run_code(case.program, book, case.text, case.form_arguments, case.form_cells, path=path)
            check_same(self, found, trace)
            for other in other_paths(random, path):
                expected = outcome_of(FormRun.traced, case.program, case.text, case.form_arguments, other, case.form_cells)
                found = outcome_of(run_code, case.program, book, case.text, case.form_arguments, case.form_cells, path=other)
                check_same(self, found, expected)
                invalid += expected[0] == "invalid"
        self.assertGreater(invalid, 50)


class RowsTest(unittest.TestCase):
    """Codes that no procedure is translated to."""

    def run_rows(self, rows, arguments=(), parameters=(), more=None):
        header = "export procedure p" + "".join(f" {name}:{sort}" for name, sort in zip("abcd", [sort for _, sort in parameters]))
        made = program("return", header)
        return run_code(made, {"m.p": Code("m.p", parameters, rows), **(more or {})}, "m.p", arguments)

    def test_tolds(self):
        told = ("form", Amount(1, 2), ((0, Amount(3)), (2, Amount(-1))))
        rows = (("form", 2, ONE, ()), ("stop", (("m.p", "7", 0),), ((("x", told), ("k", ("known", True)), ("n", ("value", 1))),)),
                ("give", (2,)))
        check_same(self, self.run_rows(rows, [Amount(2), 4], ((0, "amount"), (1, "count"))), [
            ("stop", (("m.p", "7", ()),), ({"x": Amount(11, 2), "k": True, "n": 4},)), ("gave", (ONE,))])

    def test_turns_are_dealt_out(self):
        stop = ("stop", (("m.p", "0", 1), ("m.q", "1", 0), ("m.s", "2", 2)), ((), (("k", ("value", 4)),), ()))
        inner = ("repeat", 0, 4, (), (), (stop,), (), ())
        middle = ("while", 3, (5,), (0,), (("known", 6, 2), ("op", 7, "below", (5, 6))), 7,
                  (inner, ("known", 8, 1), ("op", 9, "+", (5, 8))), (9,), (10,))
        rows = (("known", 0, 1), ("known", 1, 2), ("repeat", 1, 2, (), (), (middle,), (), ()), ("give", (0,)))
        trace = self.run_rows(rows)
        check_same(self, [event[1] for event in trace[:-1]], [
            (("m.p", "0", (outer,)), ("m.q", "1", ()), ("m.s", "2", (turn, 0))) for outer in range(2) for turn in range(1)])
        check_same(self, trace[0][2], ({}, {"k": 0}, {}))

    def test_callers_stand_at_their_last_stops(self):
        called = Code("m.q", ((0, "count"),), (("stop", (("m.q", "0", 0),), ((("z", ("value", 0)),),)), ("give", (0,))))
        stop = ("stop", (("m.p", "3", 0), ("m.x", "4", 0)), ((("a", ("value", 0)),), (("b", ("value", 0)),)))
        rows = (stop, ("known", 1, 5), ("call", ((2, "count"),), "m.q", (1,)), ("give", (2,)))
        check_same(self, self.run_rows(rows, [9], ((0, "count"),), {"m.q": called})[1:], [
            ("stop", (("m.p", "3", ()), ("m.x", "4", ()), ("m.q", "0", ())), ({"a": 9}, {"b": 9}, {"z": 5})), ("gave", (5,))])

    def test_loops_without_rows(self):
        for turns, joined in ((0, (7, 9)), (1, (9, 7)), (2, (7, 9)), (3, (9, 7))):
            rows = (("known", 0, turns), ("known", 1, 7), ("known", 2, 9), ("repeat", 0, 3, (4, 5), (1, 2), (), (5, 4), (6, 7)), ("give", (6, 7)))
            check_same(self, self.run_rows(rows), [("gave", joined)])
        rows = (("known", 0, 10 ** 29), ("repeat", 0, 3, (), (), (), (), ()), ("give", (0,)))
        check_same(self, self.run_rows(rows), [("gave", (10 ** 29,))])

    def test_known_truth_of_a_head_from_outside(self):
        rows = (("known", 0, True), ("while", 2, (), (), (), 0, (), (), ()), ("give", ()))
        check_same(self, self.run_rows(rows), [("failed", "bound")])
        rows = (("known", 0, False), ("while", 2, (1,), (0,), (), 0, (), (1,), (2,)), ("give", (2,)))
        check_same(self, self.run_rows(rows), [("gave", (False,))])


class ErrorsTest(unittest.TestCase):
    def setUp(self):
        self.made = program("let s = (a same b)\nlet u = (a less b)\nreturn")
        self.book = book_of(self.made)
        self.good = [ONE, Amount(2), 1, True]

    def test_as_run(self):
        for value in (*ODD_VALUES, 1, "bank.half", "m.q", "p"):
            check_error(self, UnknownProcedure, {"name": value}, run_code, self.made, self.book, value, 5, 5, path=5)
        for value in (None, 5, self.good[:3], {}):
            check_error(self, InvalidArguments, {"position": None}, run_code, self.made, self.book, "m.p", value, 5)
        for position, value in enumerate((1, Form(1), True, 1)):
            arguments = [*self.good[:position], value, *[None] * (3 - position)]
            check_error(self, InvalidArguments, {"position": position}, run_code, self.made, self.book, "m.p", arguments, 5)
        check_error(self, InvalidCells, {"key": None}, run_code, self.made, self.book, "m.p", self.good, 5)
        check_error(self, InvalidCells, {"key": "m.c"}, run_code, self.made, self.book, "m.p", self.good, {"m.c": 1, "z": ONE})

    def test_as_form_run(self):
        good = [A, B, 1, True]
        for position, value in enumerate((ONE, 1, True, 1)):
            arguments = [*good[:position], value, *[None] * (3 - position)]
            check_error(self, InvalidArguments, {"position": position}, run_code, self.made, self.book, "m.p", arguments, 5, path=5)
        for value in (5, True, "yes", {}, (True for _ in "ab")):
            check_error(self, InvalidPath, {"position": None}, run_code, self.made, self.book, "m.p", good, 5, path=value)
        check_error(self, InvalidPath, {"position": 1}, run_code, self.made, self.book, "m.p", good, 5, path=[True, 1, 2])
        check_error(self, InvalidCells, {"key": "m.c"}, run_code, self.made, self.book, "m.p", good, {"m.c": ONE}, path=[])
        for path, position in (([], 0), ([True], 1), ([True, False, True], 2), ([True, False, True, True], 2)):
            check_error(self, InvalidPath, {"position": position}, run_code, self.made, self.book, "m.p", good, path=path)
        check_error(self, InvalidPath, {"position": 1}, run_code, self.made, self.book, "m.p", [A, A, 1, True], path=(True, True))
        check_same(self, run_code(program=self.made, book=self.book, procedure="m.p", arguments=tuple(good), cells=None,
                                  path=(True, False)), FormRun.traced(self.made, "m.p", good, [True, False]))
        with self.assertRaises(TypeError):
            run_code(self.made, self.book, "m.p", good, None, [True, False])

    def test_passed_and_returned_values_are_apart(self):
        arguments, cells = list(self.good), {"m.c": ONE}
        trace = run_code(self.made, self.book, "m.p", arguments, cells)
        check_same(self, [arguments, cells], [self.good, {"m.c": ONE}])
        check_same(self, list(self.book), list(book_of(self.made)))
        trace[0][2][0].clear()
        check_same(self, trace[2][2][0], {"a": ONE, "b": Amount(2), "n": 1, "t": True, "s": False})
        made = program("call y, s = bank.take(a, 2)\nreturn")
        trace = run_code(made, book_of(made), "m.p", self.good)
        stops = [event for event in trace if event[0] == "stop"]
        stops[1][2][0].clear()
        for event in stops[2:]:
            check_same(self, len(event[2][0]), 6 if len(event[1]) == 1 else 4)


class PartingTest(unittest.TestCase):
    def test_parting(self):
        trace = [("stop", (("m.p", "0", ()),), ({"n": 1, "x": ONE},)), ("test", True), ("gave", (1, ONE))]
        same = [("stop", (("m.p", "0", ()),), ({"x": Amount(2, 2), "n": 1},)), ("test", True), ("gave", (1, ONE))]
        self.assertEqual([parting(trace, trace), parting(trace=trace, other=same), parting([], [])], [None] * 3)
        for at, event in ((0, ("stop", (("m.p", "0", ()),), ({"n": True, "x": ONE},))), (0, ("stop", (("m.p", "0", ()),), ({"n": 1},))),
                          (0, ("stop", (("m.p", "0", ()),), ({"n": 1, "y": ONE},))), (0, ("stop", (("m.p", "0", (0,)),), trace[0][2])),
                          (1, ("test", 1)), (1, ("test", False)), (1, ("test",)), (2, ("gave", (True, ONE))), (2, ("gave", (1, 1))),
                          (2, ("gave", (1, Amount(1, 2)))), (2, ("gave", [1, ONE])), (2, ("failed", "row"))):
            other = [*trace[:at], event, *trace[at + 1:]]
            self.assertEqual([parting(trace, other), parting(other, trace)], [at, at])
        for length in range(3):
            self.assertEqual([parting(trace, trace[:length]), parting(trace[:length], trace)], [length, length])
        for one in ((1,), [1], {1: 2}, "1"):
            for other in (1, None, "a", (2,), [2], {1: 3}, (1, 2), ()):
                self.assertEqual([parting([("gave", one)], [("gave", other)]), parting([("gave", other)], [("gave", one)])], [0, 0])
        self.assertEqual(parting(trace[:2], [trace[0], ("test", 1), trace[2]]), 1)
        self.assertEqual(parting([("gave", (Form(1),))], [("gave", (ONE,))]), 0)


if __name__ == "__main__":
    unittest.main()
