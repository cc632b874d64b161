"""[20] Faults of modules."""

import unittest
from random import Random

from helpers import check_same
from makers import Maker

from leastlog.checker import Fault, first_fault, interface_of
from leastlog.moduletexts import read_module

BANK = {"take": (("amount", "count"), ("amount", "truth")), "ping": ((), ())}
INTERFACES = {"bank": BANK, "other": {}}
HEAD = "module m\nimport bank\ncell c\ncells r 3\n"
EARLIER = "procedure early a:amount -> count\n  return 1\n"


def fault_of(text, interfaces=INTERFACES):
    found = first_fault(read_module(text), interfaces)
    return None if found is None else str(found)


def in_procedure(*lines, header="procedure p n:count a:amount t:truth"):
    """The text of a module whose second procedure has this header and these lines."""
    body = "".join(f"  {line}\n" for line in lines)
    return f"{HEAD}{EARLIER}{header}\n{body}"


class FaultTest(unittest.TestCase):
    def test_faults(self):
        one = Fault(kind="sort", procedure="sell", label="0.a.1")
        check_same(self, [one.kind, one.procedure, one.label], ["sort", "sell", "0.a.1"])
        self.assertEqual([str(one), str(Fault("name", "sell", None)), str(Fault("name", None, None))],
                         ["sort at sell 0.a.1", "name at sell", "name"])
        self.assertEqual(one, Fault("sort", "sell", "0.a.1"))
        for other in (Fault("name", "sell", "0.a.1"), Fault("sort", "p", "0.a.1"), Fault("sort", "sell", "0"),
                      Fault("sort", "sell", None), "sort at sell 0.a.1", None):
            self.assertFalse(one == other)

    def test_interfaces(self):
        module = read_module("module m\nexport procedure z n:count t:truth -> amount count\nprocedure p\n"
                             "export procedure a\n")
        check_same(self, interface_of(module=module), {"z": (("count", "truth"), ("amount", "count")), "a": ((), ())})
        interface_of(module).clear()
        self.assertEqual(len(interface_of(module)), 2)
        check_same(self, interface_of(read_module("module m\n")), {})


class HeadsTest(unittest.TestCase):
    def test_imports(self):
        for lines, expected in (
            ("import bank\nimport other\n", None), ("import bank\nimport bank\n", "name"), ("import m\n", "name"),
            ("import bank\nimport nobody\n", "module"), ("import nobody\nimport nobody\n", "module"),
            ("import nobody\nimport m\n", "module"), ("import m\nimport nobody\n", "name"),
            ("import nobody\ncell c\ncell c\n", "module"), ("cell m\ncell bank\n", None),
        ):
            self.assertEqual(fault_of(f"module m\n{lines}"), expected)
        self.assertEqual(fault_of("module m\nimport bank\n", {}), "module")
        self.assertEqual(fault_of("module m\nimport m\n", {"m": {}}), "name")

    def test_cells_and_procedures(self):
        self.assertEqual(fault_of("module m\ncell c\ncells c 2\n"), "name")
        self.assertEqual(fault_of("module m\ncells c 1\ncells c 2\nprocedure p\n"), "name")
        self.assertIsNone(fault_of("module m\ncell m\ncell p\nprocedure p p:count\n  let m = @p\n  return\n"))
        self.assertEqual(fault_of("module m\nprocedure p\n  return\nprocedure p\n"), "name at p")
        self.assertEqual(fault_of("module m\nprocedure p\nprocedure p\n"), "return at p 0")
        self.assertEqual(fault_of("module m\nprocedure q\n  return\nprocedure p a:count b:truth a:amount\n"), "name at p")
        self.assertEqual(fault_of("module m\nprocedure p a:count a:count\n  return 1\n"), "name at p")

    def test_carries_are_not_examined(self):
        self.assertIsNone(fault_of("module m\ncarry x = (y + no)\ncarry x[1] = 1\n"))

    def test_example(self):
        module = read_module("module bank\ncell vault\nprocedure p x:amount -> amount\n  let y = (x * @vault)\n"
                             "  return z\n")
        self.assertEqual(str(first_fault(module, {})), "sort at p 0")
        self.assertEqual(first_fault(module=module, interfaces={}), Fault("sort", "p", "0"))


class StatementsTest(unittest.TestCase):
    def check_line(self, line, expected, *more):
        """The kind of the fault of the first line, wherever it stands."""
        lines = (line, *more)
        for before, label in (((), "0"), (("let zz = 1",), "1")):
            self.check_fault((*before, *lines, "return"), expected, label)
        inner = tuple(f"  {part}" for part in lines)
        for head, label in ((("if yes",), "0.a.0"), (("if yes", "else"), "0.b.0"), (("repeat 1 as zz",), "0.a.0"),
                            (("while no up to 1",), "0.a.0")):
            self.check_fault((*head, *inner, "return"), expected, label)
        if any(part.split()[0] in ("if", "repeat", "while") for part in lines):
            return
        deep = tuple(f"    {part}" for part in lines)
        self.check_fault(("let zz = 1", "if no", "  let zy = 1", "  if yes", "  else", *deep, "return"),
                         expected, "1.a.1.b.0")

    def check_fault(self, lines, expected, label):
        found = fault_of(in_procedure(*lines))
        self.assertEqual(found, None if expected is None else f"{expected} at p {label}", lines)

    def test_sound_statements(self):
        for lines in (
            ("let x = a", "set x = (x + 1/1)"), ("set a = @c",), ("set n = (n + 1)",), ("put c = a",), ("put r[n] = a",),
            ("add c @r[(n * 2)]",), ("add r[0] (a / n)",), ("if t",), ("while (a same a) up to 3",), ("repeat n as x",),
            ("repeat n as x", "  set x = (x + n)"), ("call x, y = bank.take(a, n)", "if y", "  put c = x"),
            ("call bank.ping()",), ("call x = early(a)", "set n = x"), ("put r[9] = a",), ("let x = (a / 0)",),
        ):
            self.check_line(lines[0], None, *lines[1:])

    def test_sorts_of_expressions(self):
        sound = {
            "amount": ("1/2", "a", "@c", "@r[n]", "(a + a)", "(@c - 1/2)", "(a * n)", "(a * 3)", "(a * 1/2)", "(a / n)",
                       "(a / -1/2)", "(1/2 * 0/1)", "(2/1 * 3/1)", "((a * n) / 2/1)"),
            "count": ("1", "n", "(n + 1)", "(n - n)", "(n * n)"),
            "truth": ("yes", "t", "(a same @c)", "(1/2 less a)", "(n is 1)", "(n below n)", "(t and no)", "(yes or t)",
                      "(not t)"),
        }
        for sort, texts in sound.items():
            for text in texts:
                for other in sound:
                    ending = "add c " if other == "amount" else "repeat " if other == "count" else "if "
                    line = ending + text + (" as x" if other == "count" else "")
                    self.check_line(line, None if sort == other else "sort")

    def test_wrong_operands(self):
        for text in (
            "(a + n)", "(n + a)", "(t + t)", "(a - 1)", "(1 - 1/1)", "(a * a)", "(n * a)", "(1/2 * a)", "(a * @c)", "(2 * 1/2)",
            "(a * t)", "(t * n)", "(a / a)", "(a / @c)", "(n / n)", "(n / 1/2)", "(a / 0/1)", "(1/2 / 0/1)", "(a / t)",
            "(n same n)", "(a same n)", "(t same t)", "(a less n)", "(n less n)", "(a is a)", "(n is a)", "(t is t)",
            "(a below a)", "(n below t)", "(t and n)", "(a or t)", "(n and n)", "(not n)", "(not a)", "@r[a]", "@r[t]",
            "@r[1/1]", "(a * (1/2 + 1/2))", "(a / (1/2 * 2))",
        ):
            self.check_line(f"let x = {text}", "sort")
            self.check_line(f"let x = (not (not {text}))", "sort")

    def test_variables(self):
        for line in ("let x = y", "set y = 1", "let x = (1 + y)", "let x = @r[y]", "put c = y", "put r[y] = a", "add r[y] a",
                     "add c y", "if y", "repeat y as x", "while y up to 1", "call x = early(y)", "return y", "return y, z",
                     "let x = x", "repeat x as x", "call x = early(x)", "call x, x = bank.take(y)"):
            self.check_line(line, "variable")

    def test_scopes(self):
        for lines, expected in (
            (("if t", "  let x = 1", "set x = 2"), "variable at p 1"),
            (("if t", "  let x = 1", "else", "  set x = 2"), "variable at p 0.b.0"),
            (("repeat n as x", "  let y = x", "let z = x"), "variable at p 1"),
            (("while t up to 3", "  let x = 1", "let z = x"), "variable at p 1"),
            (("let x = 1", "if t", "  set x = 2", "  repeat x as y", "    set x = y", "return"), None),
            (("if t", "  let x = 1", "let x = 1"), "name at p 1"),
            (("if t", "  let x = 1", "else", "  let x = 1"), "name at p 0.b.0"),
            (("repeat n as x", "repeat n as x"), "name at p 1"),
            (("repeat n as x", "  let x = 1"), "name at p 0.a.0"),
            (("while t up to 1", "  call x = early(a)", "call x = early(a)"), "name at p 1"),
        ):
            self.assertEqual(fault_of(in_procedure(*lines)), expected)

    def test_names(self):
        for line in ("let n = 1", "let a = a", "repeat n as t", "call t = early(a)", "call x, x = bank.take(a, n)",
                     "call x, n = bank.take(a, n)"):
            self.check_line(line, "name")

    def test_cells(self):
        for line in ("put d = a", "put c[0] = a", "put r = a", "add d a", "add c[n] a", "add r a", "let x = @d", "let x = @d[1]",
                     "let x = @c[0]", "let x = @r", "put d[n] = a", "let x = @c[a]", "put c[a] = n", "put r = n", "add d t"):
            self.check_line(line, "cell")
        for line in ("put c = n", "put c = t", "put r[n] = n", "put r[a] = a", "put r[t] = a", "add c n", "add r[1/1] a",
                     "add r[n] yes"):
            self.check_line(line, "sort")

    def test_calls(self):
        for line, expected in (
            ("call nobody.p()", "module"), ("call other.p()", "module"), ("call m.early(a)", "module"),
            ("call bank.give()", "procedure"), ("call late()", "procedure"), ("call p(n, a, t)", "procedure"),
            ("call bank.early(a)", "procedure"), ("call take()", "procedure"), ("call early(a)", "amount"),
            ("call x = early()", "amount"), ("call x, y = early(a)", "amount"), ("call x = early(a, a)", "amount"),
            ("call bank.ping(1)", "amount"), ("call x = bank.ping()", "amount"), ("call x = bank.take(a, n)", "amount"),
            ("call x = early(n)", "sort"), ("call x, y = bank.take(n, a)", "sort"), ("call x, y = bank.take(a, t)", "sort"),
        ):
            self.check_line(line, expected)
        text = in_procedure("call late()") + "procedure late\n  return\n"
        self.assertEqual(fault_of(text), "procedure at p 0")
        self.assertIsNone(fault_of(in_procedure("call x, y = bank.take(a, n)", "set a = x", "set t = y", "return")))
        self.assertEqual(fault_of(in_procedure("call x, y = bank.take(a, n)", "set t = x")), "sort at p 1")

    def test_sets_and_conditions(self):
        for line in ("set n = a", "set a = n", "set t = n", "if n", "if a", "while n up to 1", "while a up to 1",
                     "repeat a as x", "repeat t as x"):
            self.check_line(line, "sort")

    def test_returns(self):
        header = "procedure p n:count a:amount -> amount count"
        for lines, expected in (
            (("return a, n",), None), (("return a",), "amount at p 0"), (("return",), "amount at p 0"),
            (("return a, n, n",), "amount at p 0"), (("return n, a",), "sort at p 0"), (("return a, a",), "sort at p 0"),
            (("return a, n", "return a, n"), "return at p 0"), (("return a, n", "let x = 1"), "return at p 0"),
            (("if yes", "  return a, n"), "return at p 0.a.0"), (("if no", "else", "  return a, n", "return a, n"), "return at p 0.b.0"),
            (("repeat 1 as x", "  return a, n", "return a, n"), "return at p 0.a.0"), ((), "return at p 0"),
            (("let x = 1", "let y = 1"), "return at p 2"), (("if yes", "  let x = 1"), "return at p 1"),
            (("while yes up to 1", "  return", "return a, n"), "amount at p 0.a.0"),
            (("while yes up to 1", "  return a, n", "return a, n"), "return at p 0.a.0"),
            (("repeat 1 as x", "  return n, a", "return a, n"), "sort at p 0.a.0"), (("return a, z", "return"), "variable at p 0"),
        ):
            self.assertEqual(fault_of(in_procedure(*lines, header=header)), expected, lines)

    def test_rules_in_the_order_of_the_table(self):
        for line, expected in (
            ("call n = nobody.q(a)", "name"), ("call n, n = early(n, n)", "name"), ("call x = nobody.early(n, n)", "module"),
            ("call x, y = early(n, n)", "amount"), ("repeat a as n", "name"), ("put d[a] = n", "cell"), ("set z = (1 + 2)", "variable"),
            ("put d = (n + a)", "sort"), ("put d = z", "variable"), ("call n = early(z)", "variable"), ("let n = (a * a)", "sort"),
            ("let n = @d", "cell"), ("let x = (z + @d)", "variable"), ("let x = (@d + z)", "cell"), ("let x = @d[z]", "variable"),
            ("put d[z] = @d", "variable"), ("put d[@d] = z", "cell"), ("let x = ((1 + a) + z)", "sort"), ("let x = @d[(1 + a)]", "sort"),
            ("if a", "sort"),
        ):
            self.check_line(line, expected)
        for lines, expected in (
            (("if a", "  let n = 1"), "sort at p 0"), (("repeat n as n", "  let x = y"), "name at p 0"),
            (("if (a less a)", "  let x = y", "else", "  let n = 1"), "variable at p 0.a.0"),
            (("let x = 1", "set x = a", "set y = 1"), "sort at p 1"),
        ):
            self.assertEqual(fault_of(in_procedure(*lines)), expected)


class OrderTest(unittest.TestCase):
    def test_first_of_several(self):
        parts = ["import nobody\n", "cell c\ncell c\n", "procedure p a:count\n  return a\n", "procedure q a:count a:count\n",
                 "procedure r\n  let x = y\n", "procedure s\n"]
        expected = ["module", "name", "amount at p 0", "name at q", "variable at r 0", "return at s 0"]
        for index, fault in enumerate(expected):
            self.assertEqual(fault_of("module m\n" + "".join(parts[index:])), fault)
        self.assertIsNone(fault_of("module m\n"))

    def test_random_modules_have_no_faults(self):
        random = Random(20)
        for _ in range(60):
            maker = Maker(random)
            for name in ("aa", "bb", "cc"):
                before = dict(maker.interfaces)
                module = maker.module(name)
                self.assertIsNone(first_fault(module, before))

    def test_arguments_stay_as_they_were(self):
        interfaces = {"bank": dict(BANK)}
        first_fault(read_module(in_procedure("return")), interfaces)
        check_same(self, interfaces, {"bank": BANK})


if __name__ == "__main__":
    unittest.main()
