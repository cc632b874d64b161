"""[33] Calls in line, and codes that went through several passes."""

import unittest
from random import Random

from cases import random_cases, random_programs
from codechecks import CHECKS, CodeCheck, each_row
from helpers import ODD_VALUES, check_error, check_same

from leastlog.amounts import Amount
from leastlog.codes import Code
from leastlog.coderuns import parting, run_code
from leastlog.failures import UnknownPass
from leastlog.formruns import FormRun
from leastlog.inlining import PASSES, inline, optimized, optimized_book
from leastlog.loop_passes import hoist
from leastlog.moduletexts import read_module
from leastlog.passes import drop_dead, fold, least_asked, share_equal, spread
from leastlog.programs import Program
from leastlog.runs import Run
from leastlog.translating import book_of

ONE, ZERO = Amount(1), Amount(0)
BANK = """module bank
cell vault
procedure half a:amount -> amount
  let b = (a / 2/1)
  return b
export procedure take a:amount n:count -> amount truth
  repeat n as turn
    call h = half(a)
    add vault h
  return @vault, (n below 3)
"""
TILL = """module till
import bank
cell cash
procedure twice x:amount -> amount
  return (x + x)
export procedure sell x:amount n:count -> amount
  let k = x
  repeat n as i
    if (i below 2)
      call y, t = bank.take(k, i)
      set k = (k + y)
    else
      call z = twice(k)
      set k = z
  return k
"""
PROGRAM = Program(read_module(BANK), read_module(TILL))
BOOK = book_of(PROGRAM)


def told(value):
    return "form", ZERO, ((value, ONE),)


def calls(code):
    return [row[2] for row, _ in each_row(code.rows) if row[0] == "call"]


def stops(code):
    return [row for row, _ in each_row(code.rows) if row[0] == "stop"]


class InlineTest(unittest.TestCase):
    def test_a_call(self):
        book = book_of(Program(read_module("module m\nprocedure q x:amount y:amount n:count -> amount count\n  let s = (x + y)\n"
                                           "  return s, n\nexport procedure p a:amount -> amount\n  let k = 3\n"
                                           "  call r, l = q(a, a, k)\n  return (r * l)\n")))
        code = inline(code=book["m.p"], book=book)
        CodeCheck(self, code)
        here = (("a", told(0)), ("k", ("value", 1)))
        sum_value = next(row[1] for row in code.rows if row[0] == "form")
        inner = (("x", told(0)), ("y", told(0)), ("n", ("value", 1)))
        self.assertEqual(code.rows[:7], (
            ("stop", (("m.p", "0", 0),), ((("a", told(0)),),)), ("known", 1, 3), ("stop", (("m.p", "1", 0),), (here,)),
            ("stop", (("m.p", "1", 0), ("m.q", "0", 0)), (here, inner)),
            ("form", sum_value, ZERO, ((0, Amount(2)),)),
            ("stop", (("m.p", "1", 0), ("m.q", "1", 0)), (here, (*inner, ("s", told(sum_value))))),
            ("stop", (("m.p", "2", 0),), ((*here, ("r", told(sum_value)), ("l", ("value", 1))),))))
        self.assertEqual([row[2:] for row in code.rows if row[0] == "scale"], [(sum_value, 1)])
        self.assertEqual(len(code.rows), 9)
        self.assertEqual([code.procedure_text, code.parameters], ["m.p", ((0, "amount"),)])

    def test_frames_of_calls_within_calls(self):
        code = inline(BOOK["till.sell"], BOOK)
        CodeCheck(self, code)
        self.assertEqual(calls(code), [])
        frames = [row[1] for row in stops(code)]
        outer = ("till.sell", "1.a.0.a.0", 1)
        within = ("bank.take", "0.a.0", 1)
        self.assertEqual(frames, [
            (("till.sell", "0", 0),), (("till.sell", "1", 0),), (("till.sell", "1.a.0", 1),), (outer,),
            (outer, ("bank.take", "0", 0)), (outer, within), (outer, within, ("bank.half", "0", 0)),
            (outer, within, ("bank.half", "1", 0)), (outer, ("bank.take", "0.a.1", 1)), (outer, ("bank.take", "1", 0)),
            (("till.sell", "1.a.0.a.1", 1),), (("till.sell", "1.a.0.b.0", 1),),
            (("till.sell", "1.a.0.b.0", 1), ("till.twice", "0", 0)), (("till.sell", "1.a.0.b.1", 1),), (("till.sell", "2", 0),)])
        names = [[name for name, _ in frame] for frame in stops(code)[6][2]]
        self.assertEqual(names, [["x", "n", "k", "i"], ["a", "n", "turn"], ["a"]])
        self.assertEqual(stops(code)[6][2][:2], stops(code)[5][2])
        self.assertEqual(stops(code)[12][2][0], stops(code)[11][2][0])

    def test_some_of_the_codes(self):
        found = inline(BOOK["till.sell"], {"bank.take": BOOK["bank.take"]})
        self.assertEqual(calls(found), ["bank.half", "till.twice"])
        again = inline(found, {"bank.half": BOOK["bank.half"], "till.sell": BOOK["till.sell"]})
        self.assertEqual(calls(again), ["till.twice"])
        whole = inline(again, BOOK)
        self.assertEqual(whole.renumbered(), inline(BOOK["till.sell"], BOOK).renumbered())
        for code in (found, again, whole):
            CodeCheck(self, code)
        self.check_traces({**BOOK, "till.sell": found})
        self.check_traces({**BOOK, "till.sell": again})
        self.check_traces({"till.sell": whole})

    def check_traces(self, book):
        for number in range(5):
            arguments = [Amount(3, 2), number]
            trace = Run.traced(PROGRAM, "till.sell", arguments)
            self.assertIsNone(parting(run_code(PROGRAM, book, "till.sell", arguments), trace))

    def test_a_stop_ahead_in_a_list_around(self):
        called = Code("m.q", (), (("stop", (("m.q", "0", 0),), ((),)), ("give", ())))
        frame = (("n", ("value", 0)),)
        begin = ("stop", (("m.p", "3", 0),), (frame,))
        branch = ("if", 1, (("stop", (("m.p", "x", 0),), (frame,)), ("call", (), "m.q", ())), (), (("call", (), "m.q", ()),), (), ())
        rows = (begin, branch, ("call", (), "m.q", ()), ("call", (), "m.q", ()), ("give", ()))
        code = inline(Code("m.p", ((0, "count"), (1, "truth")), rows), {"m.q": called})
        self.assertEqual([row[1] for row in stops(code)], [
            (("m.p", "3", 0),), (("m.p", "x", 0),), (("m.p", "x", 0), ("m.q", "0", 0)), (("m.p", "3", 0), ("m.q", "0", 0)),
            (("m.p", "3", 0), ("m.q", "0", 0)), (("m.p", "3", 0), ("m.q", "0", 0))])

    def test_nothing_to_put_in_line(self):
        for code in BOOK.values():
            self.assertEqual(inline(code, {}), code)
            self.assertEqual(inline(code, {code.procedure_text: code}), code)
            dropped = drop_dead(spread(code))
            self.assertEqual(inline(dropped, {}), dropped)

    def test_results_of_calls_are_arguments_and_results(self):
        text = "module m\nprocedure q x:amount -> amount\n  return x\nexport procedure p a:amount b:amount -> amount amount\n" \
               "  call c = q(b)\n  call d = q(c)\n  if (c less a)\n    call e = q(a)\n    set d = e\n  return d, c\n"
        made = Program(read_module(text))
        book = book_of(made)
        code = inline(book["m.p"], book)
        CodeCheck(self, code)
        self.assertEqual([row[3:6:2] for row in code.rows if row[0] == "if"], [((0,), (1,))])
        self.assertEqual(code.rows[-1][1][1], 1)
        for values in ((1, 2), (2, 1)):
            arguments = [Amount(value) for value in values]
            trace = Run.traced(made, "m.p", arguments)
            self.assertIsNone(parting(run_code(made, {"m.p": code}, "m.p", arguments), trace))

    def test_random_codes(self):
        random = Random(330)
        for made in random_programs(330, 60):
            book = book_of(made)
            before = {text: repr(code.rows) for text, code in book.items()}
            some = {text: book[text] for text in book if random.random() < 0.6}
            for text, code in book.items():
                for chosen in (book, some):
                    found = inline(code, chosen)
                    CodeCheck(self, found)
                    self.assertFalse(set(calls(found)) & set(chosen))
                    self.assertEqual([found.procedure_text, found.parameters], [text, code.parameters])
                    self.assertEqual(found, inline(code, chosen))
            self.assertEqual({text: repr(code.rows) for text, code in book.items()}, before)


class OptimizedTest(unittest.TestCase):
    def test_passes(self):
        self.assertEqual(PASSES, {"spread": spread, "fold": fold, "share": share_equal, "drop": drop_dead, "ask": least_asked,
                                  "hoist": hoist})
        self.assertEqual(list(PASSES), ["spread", "fold", "share", "drop", "ask", "hoist"])

    def test_sequences(self):
        code = BOOK["till.sell"]
        self.assertEqual(optimized(code), code)
        self.assertEqual(optimized(code, "inline"), code)
        self.assertEqual(optimized(code, "inline", book={}), code)
        self.assertEqual(optimized(code, "spread", "inline", "drop"), drop_dead(spread(code)))
        self.assertEqual(optimized(code, "inline", "spread", "drop", book=BOOK), drop_dead(spread(inline(code, BOOK))))
        self.assertEqual(optimized(code, "hoist", "inline", "share", "inline", book=BOOK), inline(share_equal(inline(hoist(code), BOOK)), BOOK))

    def test_books(self):
        self.assertEqual(optimized_book(PROGRAM), BOOK)
        self.assertEqual(list(optimized_book(PROGRAM, "ask")), list(BOOK))
        for names in (("inline",), ("drop", "inline"), ("inline", "spread", "inline", "hoist")):
            found = optimized_book(PROGRAM, *names)
            self.assertEqual(found, {text: optimized(code, *names, book=BOOK) for text, code in BOOK.items()})
        self.assertEqual(optimized_book(Program(), "fold"), {})

    def test_unknown_passes(self):
        code = BOOK["till.sell"]
        for value in (*ODD_VALUES, 1, "hoists", "share_equal", "Spread", "spread ", ("spread",), spread):
            check_error(self, UnknownPass, {"value": value}, optimized, code, value)
            check_error(self, UnknownPass, {"value": value}, optimized, code, "spread", "inline", value, "no", book=BOOK)
            check_error(self, UnknownPass, {"value": value}, optimized_book, PROGRAM, "ask", value, None)
            check_error(self, UnknownPass, {"value": value}, optimized_book, Program(), value)

    def test_random_sequences(self):
        random = Random(331)
        names = [*PASSES, "inline"]
        for case in random_cases(331, 100):
            path = case.run.path()
            trace = FormRun.traced(case.program, case.text, case.form_arguments, path, case.form_cells)
            for many in (1, 3, 8):
                chosen = random.choices(names, k=many)
                book = optimized_book(case.program, *chosen)
                found = run_code(case.program, book, case.text, case.arguments, case.cells)
                self.assertIsNone(parting(found, case.run.trace()), chosen)
                found = run_code(case.program, book, case.text, case.form_arguments, case.form_cells, path=path)
                self.assertIsNone(parting(found, trace), chosen)
                for code in book.values():
                    CodeCheck(self, code)
                    if chosen[-1] != "inline":
                        self.assertTrue(CHECKS[chosen[-1]](code), chosen)


if __name__ == "__main__":
    unittest.main()
