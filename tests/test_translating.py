"""[31] Translation."""

import unittest

from cases import random_programs
from codechecks import CodeCheck, each_row, inner, sets
from helpers import ODD_VALUES, amount, check_error, check_same

from leastlog.failures import UnknownProcedure
from leastlog.moduletexts import read_module
from leastlog.programs import Program
from leastlog.translating import book_of, translate

ONE, ZERO = amount("1"), amount("0")
BANK = "module bank\nexport procedure take a:amount n:count -> amount truth\n  return a, (n is 3)\n"


def program(body, header="procedure p", more=""):
    lines = "".join(f"  {line}\n" for line in body.splitlines())
    text = f"module m\nimport bank\ncell c\ncells r 3\n{more}{header}\n{lines}"
    return Program(read_module(text), read_module(BANK))


def rows_of(body, header="procedure p", more=""):
    """The rows of the body, with a word in place of each stop."""
    return without_stops(translate(program(body, header, more), "m.p").rows)


def without_stops(rows):
    found = []
    for row in rows:
        lists = {id(part): without_stops(part) for part, _, _ in inner(row)}
        found.append("stop" if row[0] == "stop" else tuple(
            lists.get(id(part), part) if type(part) is tuple and part and type(part[0]) is tuple else part for part in row))
    return tuple(found)


def stops_of(body, header="procedure p"):
    """The frames and shown of all stop rows."""
    code = translate(program(body, header), "m.p")
    return [row[1:] for row, _ in each_row(code.rows) if row[0] == "stop"]


def told(value):
    return "form", ZERO, ((value, ONE),)


AMOUNTS = "procedure p a:amount b:amount n:count t:truth"


class ExpressionsTest(unittest.TestCase):
    def check(self, expression, *expected):
        """The rows of an expression over a: 0, b: 1, n: 2, t: 3; the new values begin with 4."""
        sort = "amount"
        for word in ("count", "truth"):
            if expression.startswith(word + " "):
                sort, expression = word, expression.removeprefix(word + " ")
        rows = rows_of(f"return {expression}", f"{AMOUNTS} -> {sort}")
        check_same(self, rows[:-1], ("stop", *expected))
        return rows[-1]

    def test_literals_and_variables(self):
        self.check("-3/2", ("form", 4, amount("-3/2"), ()))
        self.check("count -7", ("known", 4, -7))
        self.check("truth yes", ("known", 4, True))
        self.check("truth no", ("known", 4, False))
        check_same(self, self.check("b"), ("give", (1,)))
        check_same(self, self.check("truth t"), ("give", (3,)))

    def test_reads(self):
        check_same(self, self.check("@c", ("read", 4, "m.c", None)), ("give", (4,)))
        self.check("@r[n]", ("read", 4, "m.r", 2))
        self.check("@r[(n + 1)]", ("known", 4, 1), ("op", 5, "+", (2, 4)), ("read", 6, "m.r", 5))

    def test_sums(self):
        self.check("(a + b)", ("form", 4, ZERO, ((0, ONE), (1, ONE))))
        self.check("(b - a)", ("form", 4, ZERO, ((0, -ONE), (1, ONE))))
        self.check("(a + a)", ("form", 4, ZERO, ((0, amount("2")),)))
        self.check("(a - a)", ("form", 4, ZERO, ()))
        self.check("(a + 3/1)", ("form", 4, amount("3"), ()), ("form", 5, ZERO, ((0, ONE), (4, ONE))))

    def test_literal_factors(self):
        self.check("(a * 2/3)", ("form", 4, ZERO, ((0, amount("2/3")),)))
        self.check("(a * 0/1)", ("form", 4, ZERO, ()))
        self.check("(a / -2/3)", ("form", 4, ZERO, ((0, amount("-3/2")),)))
        self.check("(5/1 * 2/1)", ("form", 4, amount("5"), ()), ("form", 5, ZERO, ((4, amount("2")),)))

    def test_counts(self):
        self.check("(a * n)", ("scale", 4, 0, 2))
        self.check("(a / n)", ("share", 4, 0, 2))
        self.check("(a / 0)", ("known", 4, 0), ("share", 5, 0, 4))
        for word in "+-*":
            self.check(f"count (n {word} n)", ("op", 4, word, (2, 2)))

    def test_truths(self):
        self.check("truth (a same b)", ("test", 4, "same", 0, 1))
        self.check("truth (b less a)", ("test", 4, "less", 1, 0))
        self.check("truth (n is 3)", ("known", 4, 3), ("op", 5, "is", (2, 4)))
        self.check("truth (n below n)", ("op", 4, "below", (2, 2)))
        self.check("truth (t and no)", ("known", 4, False), ("op", 5, "and", (3, 4)))
        self.check("truth (t or t)", ("op", 4, "or", (3, 3)))
        self.check("truth (not t)", ("op", 4, "not", (3,)))

    def test_from_left_to_right(self):
        self.check("((@c + @r[n]) * (n - 1))", ("read", 4, "m.c", None), ("read", 5, "m.r", 2), ("form", 6, ZERO, ((4, ONE), (5, ONE))),
                   ("known", 7, 1), ("op", 8, "-", (2, 7)), ("scale", 9, 6, 8))


class StatementsTest(unittest.TestCase):
    def check(self, body, *expected, header=AMOUNTS, more=""):
        check_same(self, rows_of(f"{body}\nreturn", header, more), (*expected, "stop", ("give", ())))

    def test_bindings(self):
        self.check("let x = a\nset x = b\nlet y = x\nset y = (y + x)", "stop", "stop", "stop", "stop",
                   ("form", 4, ZERO, ((1, amount("2")),)))
        self.check("let x = 1/1\nset x = (x + x)\nput c = x", "stop", ("form", 4, ONE, ()), "stop",
                   ("form", 5, ZERO, ((4, amount("2")),)), "stop", ("write", "m.c", None, 5))

    def test_writes(self):
        self.check("put c = a\nput r[n] = b\nput r[1] = @c", "stop", ("write", "m.c", None, 0), "stop", ("write", "m.r", 2, 1),
                   "stop", ("known", 4, 1), ("read", 5, "m.c", None), ("write", "m.r", 4, 5))
        self.check("add c a\nadd r[n] (a * n)", "stop", ("read", 4, "m.c", None), ("form", 5, ZERO, ((0, ONE), (4, ONE))),
                   ("write", "m.c", None, 5), "stop", ("scale", 6, 0, 2), ("read", 7, "m.r", 2),
                   ("form", 8, ZERO, ((6, ONE), (7, ONE))), ("write", "m.r", 2, 8))

    def test_calls(self):
        more = "procedure q t:truth -> count\n  return 1\n"
        self.check("call x, u = bank.take(b, (n + n))\ncall k = q(u)\nset n = k\nput c = x", "stop", ("op", 4, "+", (2, 2)),
                   ("call", ((5, "amount"), (6, "truth")), "bank.take", (1, 4)), "stop", ("call", ((7, "count"),), "m.q", (6,)), "stop",
                   "stop", ("write", "m.c", None, 5), more=more)
        self.check("call q()", "stop", ("call", (), "m.q", ()), more="procedure q\n  return\n")

    def test_ifs(self):
        self.check("let x = 1\nif t\n  set a = b\n  let y = 2\n  set y = 3\nelse\n  set x = n\nset n = x", "stop", ("known", 4, 1), "stop",
                   ("if", 3, ("stop", "stop", ("known", 5, 2), "stop", ("known", 6, 3)), (1, 4), ("stop",), (0, 2), (7, 8)), "stop")
        self.check("if (not t)", "stop", ("op", 4, "not", (3,)), ("if", 4, (), (), (), (), ()))
        self.check("if t\n  set a = a", "stop", ("if", 3, ("stop",), (0,), (), (0,), (4,)))

    def test_repeats(self):
        self.check("repeat (n + n) as i\n  set a = (a * i)\n  set i = n\n  set b = a\nput c = b", "stop", ("op", 4, "+", (2, 2)),
                   ("repeat", 4, 5, (6, 7), (0, 1), ("stop", ("scale", 8, 6, 5), "stop", "stop"), (8, 8), (9, 10)), "stop",
                   ("write", "m.c", None, 10))
        self.check("repeat n as i", "stop", ("repeat", 2, 4, (), (), (), (), ()))

    def test_whiles(self):
        self.check("while ((a less @c) and t) up to 7\n  set a = (a + b)", "stop",
                   ("while", 7, (4,), (0,), (("read", 5, "m.c", None), ("test", 6, "less", 4, 5), ("op", 7, "and", (6, 3))), 7,
                    ("stop", ("form", 8, ZERO, ((1, ONE), (4, ONE)))), (8,), (9,)))
        self.check("while t up to 100\n  set t = no", "stop",
                   ("while", 100, (4,), (3,), (), 4, ("stop", ("known", 5, False)), (5,), (6,)))

    def test_lists_within_lists(self):
        self.check("let x = a\nrepeat n as i\n  if t\n    set x = b\n  set a = x\nset b = x", "stop", "stop",
                   ("repeat", 2, 4, (5, 6), (0, 0), ("stop", ("if", 3, ("stop",), (1,), (), (6,), (7,)), "stop"), (7, 7), (8, 9)), "stop")
        self.check("if t\n  while t up to 2\n    set n = 1\nelse\n  repeat n as i\n    set a = b\nset b = a", "stop",
                   ("if", 3,
                    ("stop", ("while", 2, (4,), (2,), (), 3, ("stop", ("known", 5, 1)), (5,), (6,))), (0, 6),
                    ("stop", ("repeat", 2, 7, (8,), (0,), ("stop",), (1,), (9,))), (9, 2), (10, 11)), "stop")

    def test_joined_in_the_order_of_binding(self):
        self.check("let z = 1\nlet k = 2\nif t\n  set k = 3\n  set n = 4\nelse\n  set z = 5\n  set a = b", "stop", ("known", 4, 1), "stop",
                   ("known", 5, 2), "stop",
                   ("if", 3, ("stop", ("known", 6, 3), "stop", ("known", 7, 4)), (0, 7, 4, 6),
                    ("stop", ("known", 8, 5), "stop"), (1, 2, 8, 5), (9, 10, 11, 12)))


class StopsTest(unittest.TestCase):
    def test_frames_and_shown(self):
        body = "let x = (a * 2/1)\nrepeat n as i\n  if t\n    let y = x\n    set a = y\n  else\n    set b = a\n" \
               "set x = a\nreturn"
        found = stops_of(body, AMOUNTS)
        start = (("a", told(0)), ("b", told(1)), ("n", ("value", 2)), ("t", ("value", 3)))
        within = (("a", told(6)), ("b", told(7)), ("n", ("value", 2)), ("t", ("value", 3)), ("x", told(4)), ("i", ("value", 5)))
        behind = (("a", told(10)), ("b", told(11)), ("n", ("value", 2)), ("t", ("value", 3)))
        check_same(self, found, [
            ((("m.p", "0", 0),), (start,)), ((("m.p", "1", 0),), ((*start, ("x", told(4))),)),
            ((("m.p", "1.a.0", 1),), (within,)), ((("m.p", "1.a.0.a.0", 1),), (within,)),
            ((("m.p", "1.a.0.a.1", 1),), ((*within, ("y", told(4))),)), ((("m.p", "1.a.0.b.0", 1),), (within,)),
            ((("m.p", "2", 0),), ((*behind, ("x", told(4))),)), ((("m.p", "3", 0),), ((*behind, ("x", told(10))),))])

    def test_depths(self):
        body = "repeat 2 as i\n  while yes up to 3\n    let x = i\n  let y = i\nreturn"
        self.assertEqual([frames for frames, _ in stops_of(body)], [
            (("m.p", "0", 0),), (("m.p", "0.a.0", 1),), (("m.p", "0.a.0.a.0", 2),), (("m.p", "0.a.1", 1),), (("m.p", "1", 0),)])

    def test_turns_that_were_set(self):
        found = stops_of("repeat 2 as i\n  set i = 5\n  let y = i\nreturn")
        self.assertEqual([shown for _, shown in found], [
            ((),), ((("i", ("value", 1)),),), ((("i", ("value", 2)),),), ((),)])


class BookTest(unittest.TestCase):
    def test_translate(self):
        made = program("return 1", "export procedure p -> count")
        code = translate(program=made, procedure="m.p")
        check_same(self, [code.procedure_text, code.parameters, code.rows], [
            "m.p", (), (("stop", (("m.p", "0", 0),), ((),)), ("known", 0, 1), ("give", (0,)))])
        code = translate(made, "bank.take")
        self.assertEqual(code.parameters, ((0, "amount"), (1, "count")))
        for value in (*ODD_VALUES, 1, "m", "p", "m.q", "m.p ", "bank.p"):
            check_error(self, UnknownProcedure, {"name": value}, translate, made, value)

    def test_book(self):
        texts = ["module b\nimport c\nprocedure z\n  return\nexport procedure a\n  call c.y()\n  return\n",
                 "module c\nexport procedure y\n  return\nprocedure x\n  return\n", "module a\nexport procedure q\n  return\n"]
        made = Program(*[read_module(text) for text in texts])
        book = book_of(program=made)
        self.assertEqual(list(book), ["a.q", "c.y", "c.x", "b.z", "b.a"])
        for text, code in book.items():
            self.assertEqual(code, translate(made, text))
        book.clear()
        self.assertEqual(len(book_of(made)), 5)
        self.assertEqual(book_of(Program()), {})

    def test_random_codes(self):
        for made in random_programs(31, 60):
            for text, code in book_of(made).items():
                CodeCheck(self, code)
                self.assertEqual(code.renumbered(), code)
                self.assertEqual([code.procedure_text, code], [text, translate(made, text)])
                values = [value for row, _ in each_row(code.rows) for value in sets(row)]
                self.assertEqual(len(set(values)), len(values))


if __name__ == "__main__":
    unittest.main()
