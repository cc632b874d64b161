"""[16], [17], [19] Texts of modules, written and read back."""

import unittest
from random import Random

from helpers import ODD_VALUES, check_error, check_same
from makers import Maker

from leastlog.amounts import Amount
from leastlog.errors import InvalidText
from leastlog.modules import Module
from leastlog.moduletexts import read_module

EXAMPLE = """module till
import bank
cell cash
cells box 2
carry cash = (@cash + @box[1])
carry box[0] = 0/1
export procedure sell n:count price:amount -> amount
  repeat n as turn
    if (@cash less price)
      add cash (price * turn)
    else
      call left, was = bank.take(price, turn)
      put box[turn] = left
  return @cash
procedure idle
  return
"""
X, Y = ("name", "x"), ("name", "y")
COIN = ("amount", Amount(-1, 2))
# Each row of the tables of [16] and [17]: an expression or a statement, and its text.
EXPRESSIONS = (
    (("amount", Amount(3)), "3/1"), (COIN, "-1/2"), (("amount", Amount(0)), "0/1"),
    (("amount", Amount(10 ** 29, 7)), "1" + "0" * 29 + "/7"), (("count", -3), "-3"), (("count", 0), "0"),
    (("count", 10 ** 29), "1" + "0" * 29), (("truth", True), "yes"), (("truth", False), "no"), (X, "x"),
    (("name", "abcdefgh"), "abcdefgh"), (("name", "nota"), "nota"), (("name", "yess"), "yess"),
    (("read", "c", None), "@c"), (("read", "c", X), "@c[x]"), (("read", "c", ("read", "d", ("count", 1))), "@c[@d[1]]"),
    (("not", X), "(not x)"), (("not", ("not", ("truth", True))), "(not (not yes))"),
    (("and", ("name", "nota"), X), "(nota and x)"), (("+", ("count", -1), ("count", -2)), "(-1 + -2)"),
    *[((word, X, COIN), f"(x {word} -1/2)") for word in "+ - * / same less is below and or".split()],
    (("-", ("/", X, Y), ("*", X, ("-", Y, X))), "((x / y) - (x * (y - x)))"),
    (("not", ("not", ("not", ("not", ("not", ("not", X)))))), "(not " * 6 + "x" + ")" * 6),
    (("read", "c", ("read", "c", ("read", "c", ("read", "c", ("read", "c", ("read", "c", X)))))), "@c[" * 6 + "x" + "]" * 6),
)
STATEMENTS = (
    (("let", "x", COIN), "let x = -1/2"), (("set", "x", Y), "set x = y"), (("put", "c", None, X), "put c = x"),
    (("put", "c", X, Y), "put c[x] = y"), (("add", "c", None, X), "add c x"), (("add", "c", X, Y), "add c[x] y"),
    (("add", "c", None, COIN), "add c -1/2"), (("add", "c", ("+", X, Y), ("-", X, Y)), "add c[(x + y)] (x - y)"),
    (("call", (), None, "p", ()), "call p()"), (("call", (), "m", "p", ()), "call m.p()"),
    (("call", ("x",), None, "p", (X,)), "call x = p(x)"), (("call", (), None, "p", (X, Y)), "call p(x, y)"),
    (("call", ("x", "y"), "m", "p", (X, COIN)), "call x, y = m.p(x, -1/2)"), (("return", ()), "return"),
    (("return", (X,)), "return x"), (("return", (X, Y, COIN)), "return x, y, -1/2"),
)
BRANCHES = (
    (("if", X, (), ()), ["if x"]), (("if", X, (("return", ()),), ()), ["if x", "  return"]),
    (("if", X, (), (("return", ()),)), ["if x", "else", "  return"]),
    (("if", X, (("return", ()),), (("return", (Y,)),)), ["if x", "  return", "else", "  return y"]),
    (("repeat", X, "n", ()), ["repeat x as n"]), (("repeat", X, "n", (("return", ()),)), ["repeat x as n", "  return"]),
    (("while", X, 7, ()), ["while x up to 7"]), (("while", X, 100, (("return", ()),)), ["while x up to 100", "  return"]),
    (("if", X, (("if", Y, (), (("return", ()),)),), (("repeat", Y, "n", ()),)),
     ["if x", "  if y", "  else", "    return", "else", "  repeat y as n"]),
)


def in_procedure(lines):
    """The text of a module whose procedure has these lines."""
    return "module m\nprocedure p\n" + "".join(f"  {line}\n" for line in lines)


def nested(deep):
    return "(1 + " * deep + "1" + ")" * deep


class RoundTripTest(unittest.TestCase):
    def check_text(self, module, text):
        self.assertEqual(str(module), text)
        check_same(self, read_module(text), module)
        self.assertEqual(str(read_module(text=text)), text)

    def test_example(self):
        self.assertEqual(str(read_module(EXAMPLE)), EXAMPLE)
        module = read_module(EXAMPLE)
        check_same(self, module.cells(), [("cash", None), ("box", 2)])
        check_same(self, module.carries()[1], ("box", 0, ("amount", Amount(0))))
        check_same(self, module.procedures()[0][:5],
                   ("procedure", True, "sell", (("n", "count"), ("price", "amount")), ("amount",)))
        check_same(self, module.procedures()[1], ("procedure", False, "idle", (), (), (("return", ()),)))

    def test_expressions(self):
        for expression, text in EXPRESSIONS:
            module = Module("m", procedures=[("procedure", False, "p", (), (), (("let", "v", expression),))])
            self.check_text(module, in_procedure([f"let v = {text}"]))

    def test_statements(self):
        for statement, lines in [*[(one, [line]) for one, line in STATEMENTS], *BRANCHES]:
            module = Module("m", procedures=[("procedure", False, "p", (), (), (statement, ("return", ())))])
            self.check_text(module, in_procedure([*lines, "return"]))

    def test_headers(self):
        for exported in (True, False):
            for parameters in ((), (("a", "count"),), (("a", "truth"), ("b", "amount"))):
                for results in ((), ("truth",), ("count", "amount", "truth", "amount")):
                    module = Module("m", procedures=[("procedure", exported, "p", parameters, results, ())])
                    words = ["export"] * exported + ["procedure", "p"] + [":".join(pair) for pair in parameters]
                    words += ["->"] * bool(results) + list(results)
                    self.check_text(module, "module m\n" + " ".join(words) + "\n")

    def test_heads(self):
        self.check_text(Module("abcdefgh"), "module abcdefgh\n")
        module = Module("m", ["a", "a", "m"], [("c", None), ("d", 9), ("c", 1)], [], [("c", None, X), ("z", 8, COIN)])
        self.check_text(module, "module m\nimport a\nimport a\nimport m\ncell c\ncells d 9\ncells c 1\n"
                                "carry c = x\ncarry z[8] = -1/2\n")

    def test_random_modules(self):
        random = Random(19)
        for _ in range(40):
            maker = Maker(random)
            for name in ("aa", "bb", "cc"):
                module = maker.module(name)
                self.check_text(module, str(module))

    def test_all_limits_at_once(self):
        lines = ["module abcdefgh", *[f"import {name}" for name in "abcdefgh"], *[f"cells {name} 9" for name in "abcdefgh"],
                 *["carry a[8] = 1"] * 20]
        header = "export procedure p " + " ".join(f"{name}:truth" for name in "abcdef") + " -> count count count count"
        body = ["  if yes", "    while no up to 100", *["      return"] * 40, *[f"  let x = {nested(6)}"] * 39]
        text = "".join(f"{line}\n" for line in [*lines, *[header, *body] * 8])
        self.assertEqual(str(read_module(text)), text)


class WrongTextsTest(unittest.TestCase):
    def wrong(self, line, text):
        with self.subTest(text[:200]):
            check_error(self, InvalidText, {"line": line}, read_module, text)

    def wrong_line(self, *lines):
        """The last of these lines of a procedure is the first wrong one."""
        self.wrong(2 + len(lines), in_procedure(lines))
        self.wrong(2 + len(lines), in_procedure([*lines, "return"]))
        self.wrong(2 + len(lines), in_procedure([*lines, "nonsense"]))

    def test_no_strings(self):
        for value in ODD_VALUES:
            if not isinstance(value, str):
                check_error(self, InvalidText, {"line": 0}, read_module, value)
        check_error(self, InvalidText, {"line": 0}, read_module, 5)

    def test_line_feeds(self):
        self.wrong(1, "")
        self.wrong(1, "\n")
        self.wrong(1, "module m")
        self.wrong(2, "module m\n\n")
        self.wrong(2, "module m\n\ncell c\n")
        self.wrong(1, " ")
        for end in range(1, len(EXAMPLE)):
            text = EXAMPLE[:end]
            rest = text.partition("else\n")[2]
            if text.endswith("else\n") or rest and len(rest) < 6:
                self.wrong(11, text)
            elif not text.endswith("\n"):
                self.wrong(text.count("\n") + 1, text)
            else:
                read_module(text)

    def test_order_of_parts(self):
        lines = ["import a", "cell b", "carry c = 1", "procedure d"]
        for first, one in enumerate(lines):
            for second, other in enumerate(lines):
                text = f"module m\n{one}\n{other}\n"
                if first > second:
                    self.wrong(3, text)
                else:
                    read_module(text)
        for line in lines:
            self.wrong(1, f"{line}\n")
            self.wrong(4, f"module m\nprocedure p\n  return\nmodule n\n{line}\n")
        self.wrong(2, "module m\nmodule m\n")

    def test_heads(self):
        for line in (
            "module M", "module", "module ", "module  m", " module m", "module m ", "module abcdefghi", "module if",
            "module m1", "modules m", "Module m", "module m n",
        ):
            self.wrong(1, f"{line}\n")
        for line in (
            "import", "import a b", "import  a", "import cell", "import abcdefghi", "import a,", " import a", "  import a",
            "cell", "cell a 1", "cell A", "cell not", "cell a ", "cells a", "cells a 0", "cells a 10", "cells a 01",
            "cells a -1", "cells a  1", "cells a 1 ", "cells a x", "cells a 1/1", "cells add 1", "carry a", "carry a = ",
            "carry a =1", "carry a= 1", "carry a[9] = 1", "carry a[-1] = 1", "carry a[-0] = 1", "carry a[00] = 1",
            "carry a[x] = 1", "carry a[] = 1", "carry a [0] = 1", "carry a[0 ] = 1", "carry a[0] = 1 ", "carry if = 1",
            "carry a = 1, 2", f"carry a = {nested(7)}", "procedure", "procedure p ", "procedure p a", "procedure p a:",
            "procedure p a: count", "procedure p a :count", "procedure p a:counts", "procedure p a:Count",
            "procedure p  a:count", "procedure p a:count  b:count", "procedure p a:count, b:count", "procedure p ->",
            "procedure p -> ", "procedure p ->count", "procedure p -> number", "procedure p -> count, count",
            "procedure p -> count  count", "procedure p -> count ", "procedure p  -> count", "procedure p->count",
            "procedure p -> count a:count", "procedure p if:count", "procedure if", "export p", "export  procedure p",
            "procedure export p", "exports procedure p", "procedure p -> count count count count count", "nonsense", "x",
            "procedure p " + " ".join(f"{name}:count" for name in "abcdefg"), "return", "else", "procedure p -> -> count",
        ):
            self.wrong(2, f"module m\n{line}\n")
            self.wrong(2, f"module m\n{line}\ncell c\n")

    def test_one_too_many(self):
        self.wrong(10, "module m\n" + "import a\n" * 9)
        self.wrong(10, "module m\n" + "cell a\n" * 8 + "cells a 1\n")
        self.wrong(22, "module m\n" + "carry a = 1\n" * 30)
        self.wrong(10, "module m\n" + "procedure a\n" * 9)
        self.wrong_line(*["return"] * 41)
        self.wrong_line("if yes", *["  return"] * 40, "else", *["  return"] * 41)

    def test_indentation(self):
        for line in (" return", "   return", "    return", "  return ", "  ", "   ", "    ", "return", ""):
            self.wrong(3, f"module m\nprocedure p\n{line}\n")
        self.wrong_line("return", "  return")
        self.wrong_line("if yes", "  return", "    return")
        self.wrong_line("if yes", "    return")
        self.wrong_line("if yes", "return", "  return")
        self.wrong(2, "module m\n  return\n")
        self.wrong(3, "module m\ncell c\n  return\n")

    def test_else(self):
        self.wrong_line("else")
        self.wrong_line("return", "else")
        self.wrong_line("repeat 1 as x", "  return", "else")
        self.wrong_line("while yes up to 1", "else")
        self.wrong_line("if yes", "  return", "else", "  return", "else")
        self.wrong_line("if yes", "return", "else")
        for line in ("else ", "else x", "elsewhere", "Else"):
            self.wrong_line("if yes", line)
        for following in ("", "return\n", "procedure q\n", "  return\n", " return\n", "   return\n", "     return\n",
                          "      return\n", "  else\n", "   ", "return"):
            self.wrong(4, f"module m\nprocedure p\n  if yes\n  else\n{following}")
        for following in ("    nonsense\n", "    \n", "    else\n", "    return", "    return \n", "    x\n  else\n"):
            self.wrong(5, f"module m\nprocedure p\n  if yes\n  else\n{following}")
        self.wrong(4, "module bank\nprocedure p\n  if yes\n  else\nprocedure q\n")
        self.wrong(5, "module m\nprocedure p\n  if yes\n    if no\n    else\n    return\n")

    def test_lists_four_deep(self):
        for line in ("if yes", "repeat 1 as x", "while yes up to 1"):
            self.wrong_line("if yes", "  if yes", f"    {line}")
            self.wrong_line("while yes up to 1", "  if yes", "  else", f"    {line}")

    def test_statements(self):
        for line in (
            "let", "let x", "let x = ", "let x =1", "let x= 1", "let  x = 1", "let x  = 1", "let x = 1 ", "let if = 1",
            "let x = 1 1", "lets x = 1", "let x, y = 1", "set 1 = 1", "put c", "put c 1", "put c =", "put c[1 = 1",
            "put c[] = 1", "put c [1] = 1", "put @c = 1", "put c[1]= 1", "add c", "add c = 1", "add c[1]", "add c[1]  1",
            "add c 1 ", "if", "if ", "if x y", "if  x", "if x ", "ifx", "repeat 1", "repeat 1 as", "repeat 1 as ",
            "repeat 1 as if", "repeat as x", "repeat 1  as x", "repeat 1 as x y", "while yes", "while yes up to",
            "while yes up to 0", "while yes up to 101", "while yes up to 01", "while yes up to x", "while yes up to -1",
            "while yes up  to 1", "while yes up to 1 ", "while yes up to 1/1", "while yes up to " + "9" * 4001, "call",
            "call p", "call p(", "call p)", "call p( )", "call p (1)", "call p(1,2)", "call p(1,  2)", "call p(1, )",
            "call p(, 1)", "call p(1 , 2)", "call p(1 2)", "call m.p", "call m.p.q()", "call m. p()", "call .p()",
            "call x, y", "call x, m.p()", "call x, p()", "call x,y = p()", "call x,  y = p()", "call x = ", "call = p()",
            "call x = p", "call x = y = p()", "call m.x = p()", "call if()", "call p() ", "call p(1)x", "return ",
            "return 1,", "return 1,2", "return 1,  2", "return  1", "return 1 , 2", "returns", "return()", "nonsense", "x",
            "x = 1", "3", "module m", "cell c", "procedure p", "import a", "carry c = 1", "up to 1", "as x",
        ):
            self.wrong_line(line)
            self.wrong_line("return", "if no", "  return", f"  {line}")

    def test_expressions(self):
        for text in (
            "", " ", "01", "-0", "00", "-01", "- 1", "+1", "--1", "1.0", "1 ", "1x", "x1", "1/0", "0/2", "2/4", "-2/4",
            "-0/1", "1/-1", "1/01", "01/1", "1/", "/1", "1 /1", "1/ 1", "-", "X", "abcdefghi", "if", "add", "Yes", "yes1",
            "truth", "'x'", "@", "@ c", "@c[", "@c[1", "@c[]", "@c []", "@c[1 ]", "@c[ 1]", "@if", "@1", "@c.d", "@C",
            "@c[1][2]", "()", "(1)", "(1 +)", "(1 + )", "( + 1)", "(1  + 1)", "(1 +  1)", "(1+1)", "(1 +1)", "(1+ 1)",
            "( 1 + 1)", "(1 + 1 )", "(1 + 1", "1 + 1)", "1 + 1", "(1 + 1))", "(1 + 1 + 1)", "(1 plus 1)", "(1 // 1)",
            "(1 = 1)", "(1 not 1)", "(not)", "(not  x)", "(notx)", "(not x y)", "not x", "(x and)", "(x xor y)",
            "(1 SAME 1)", "((1 + 1)", "9" * 4001, "1/" + "9" * 4001, "9" * 5000 + "/1", nested(7), f"(not {nested(6)})",
            f"@c[{nested(6)}]", "@c[" * 7 + "1" + "]" * 7, "(not " * 7 + "x" + ")" * 7, "(" * 30000, "(not " * 10000, "(1 + " * 10000, "@c[" * 15000,
            "(" * 20000 + "1" + ")" * 20000,
        ):
            self.wrong_line(f"let x = {text}")
            self.wrong_line(f"return 1, {text}")
            self.wrong_line(f"put c[{text}] = 1")
            self.wrong(2, f"module m\ncarry c = {text}\n")
            if text:
                self.wrong_line(f"call p({text})")

    def test_first_wrong_line_counts(self):
        lines = EXAMPLE.splitlines()
        for index in range(len(lines)):
            for line in ("", "?", lines[index] + " ", " " + lines[index]):
                changed = [*lines[:index], line, *lines[index + 1:-1], "?"]
                number = index + 1
                # An else in front of the line is to blame if it is not followed as it must be.
                if lines[index - 1].strip() == "else" and not line.startswith("      c"):
                    number = index
                self.wrong(number, "".join(f"{part}\n" for part in changed))


if __name__ == "__main__":
    unittest.main()
