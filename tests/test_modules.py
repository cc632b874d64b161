"""[15] to [18] Modules, their parts and their limits."""

import unittest

from helpers import ODD_VALUES, check_error, check_same

from leastlog.amounts import Amount
from leastlog.errors import InvalidModule
from leastlog.modules import Module

RESERVED = ("add amount and as below call carry cell cells count else export if import is less let module no not or "
            "put repeat return same set to truth up while yes").split()
WRONG_NAMES = (*[value for value in ODD_VALUES if value != "a"], *RESERVED, 1, "A", "ab1", "a b", "a.b", "abcdefghi", "x_", "a\n", ["a"])
YES = ("truth", True)
ONE = ("count", 1)
COIN = ("amount", Amount(1, 2))


def procedure(*body, name="p", exported=False, parameters=(), results=()):
    return "procedure", exported, name, parameters, results, body


def with_body(*body):
    """A module whose only procedure has this body."""
    return Module("m", procedures=[procedure(*body)])


def with_expression(expression):
    return with_body(("let", "x", expression))


def nested(deep):
    """An expression of so many operations within one another."""
    expression = ONE
    for _ in range(deep):
        expression = ("+", ONE, expression)
    return expression


def repeated(deep, word, *parts):
    """A leaf within so many operations or reads of one kind."""
    expression = ONE
    for _ in range(deep):
        expression = (word, *parts, expression)
    return expression


class ValidModulesTest(unittest.TestCase):
    def test_expressions(self):
        x = ("name", "x")
        for expression in (
            COIN, ("amount", Amount(0)), ONE, ("count", -5), ("count", 10 ** 29), YES, ("truth", False), x,
            ("read", "c", None), ("read", "c", x), ("read", "c", ("read", "c", ONE)), ("not", YES),
            *[(word, x, COIN) for word in "+ - * / same less is below and or".split()],
            nested(6), ("not", nested(5)), ("read", "c", nested(5)), ("+", nested(5), ("read", "c", nested(4))),
            repeated(6, "not"), repeated(6, "read", "c"),
        ):
            module = with_expression(expression)
            check_same(self, module.procedures()[0][5], (("let", "x", expression),))

    def test_statements(self):
        empty = ()
        body = (
            ("let", "x", ONE), ("set", "x", ONE), ("put", "c", None, COIN), ("put", "c", ONE, COIN),
            ("add", "c", None, COIN), ("add", "c", ONE, COIN), ("if", YES, empty, empty), ("repeat", ONE, "n", empty),
            ("while", YES, 1, empty), ("while", YES, 100, (("return", (ONE, YES, COIN)),)),
            ("call", empty, None, "p", empty), ("call", ("a", "b"), "bank", "take", (ONE, YES)), ("return", empty),
            ("call", tuple("abcdefg"), None, "p", (ONE,) * 9),
        )
        check_same(self, with_body(*body).procedures()[0][5], body)

    def test_lists_may_be_three_deep_and_forty_long(self):
        inner = (("return", ()),) * 40
        for outer in (("if", YES, inner, inner), ("repeat", ONE, "x", inner), ("while", YES, 3, inner)):
            with_body(("if", YES, (), (outer,)))
        with_body(*[("return", ())] * 40)

    def test_all_limits_at_once(self):
        names = ["abcdefgh", *"abcdefg"]
        parameters = tuple((name, "truth") for name in names[:6])
        procedures = [procedure(name=name, parameters=parameters, results=("count", "amount", "truth", "count"))
                      for name in names]
        carries = [("box", number, COIN) for number in range(9)] * 2 + [("box", None, nested(6)), ("a", 8, YES)]
        cells = [(name, None) for name in names[:6]] + [("row", 1), ("box", 9)]
        for kind in (list, tuple):
            module = Module("abcdefgh", kind(names), kind(cells), kind(procedures), kind(carries))
            check_same(self, [module.imports(), module.cells(), module.procedures(), module.carries()],
                       [names, cells, procedures, carries])

    def test_faults_do_not_matter(self):
        Module("m", ["m", "m"], [("c", None), ("c", 3)], [procedure(), procedure(("let", "x", ("not", ONE)))],
               [("zz", None, ("name", "y"))])

    def test_parts_and_copies(self):
        cells, imports = [("cash", None)], ["bank"]
        module = Module(name="till", imports=imports, cells=cells, procedures=(), carries=())
        cells.append(("box", 2))
        imports.clear()
        check_same(self, [module.name, module.imports(), module.cells()], ["till", ["bank"], [("cash", None)]])
        for call in (module.imports, module.cells, module.procedures, module.carries, module.cell_texts):
            before = call()
            call().append(1)
            check_same(self, call(), before)

    def test_cell_texts(self):
        module = Module("till", cells=[("cash", None), ("box", 3), ("a", 1)])
        check_same(self, module.cell_texts(), ["till.a.0", "till.box.0", "till.box.1", "till.box.2", "till.cash"])
        check_same(self, Module("till").cell_texts(), [])

    def test_equality_and_texts(self):
        def made(name="m", imports=("a",), cells=(("c", None),), procedures=(procedure(),), carries=(("c", None, COIN),)):
            return Module(name, imports, cells, procedures, carries)
        self.assertEqual(made(), Module("m", ["a"], [("c", None)], [procedure()], [("c", None, ("amount", Amount(2, 4)))]))
        for other in (made("n"), made(imports=()), made(cells=[("c", 1)]), made(procedures=[procedure(exported=True)]),
                      made(carries=[("c", None, ONE)]), "m", None, str(made())):
            self.assertFalse(made() == other)
        one = Module("m", procedures=[procedure(("let", "x", ONE))])
        self.assertNotEqual(one, Module("m", procedures=[procedure(("let", "x", YES))]))
        self.assertEqual(repr(Module("till")), "Module('till')")
        self.assertEqual(str(made()), "module m\nimport a\ncell c\ncarry c = 1/2\nprocedure p\n")


class WrongModulesTest(unittest.TestCase):
    def wrong(self, part, *arguments, **options):
        check_error(self, InvalidModule, {"part": part}, Module, *arguments, **options)

    def wrong_body(self, *body):
        self.wrong("procedures", "m", procedures=[procedure(*body)])

    def test_names(self):
        for name in WRONG_NAMES:
            self.wrong("name", name)
            self.wrong("imports", "m", ["a", name])
            self.wrong("cells", "m", cells=[("a", None), (name, None)])
            self.wrong("procedures", "m", procedures=[procedure(name=name)])
            self.wrong("procedures", "m", procedures=[procedure(parameters=((name, "count"),))])
            self.wrong("carries", "m", carries=[(name, None, ONE)])
            for statement in (("let", name, ONE), ("set", name, ONE), ("put", name, None, ONE), ("add", name, None, ONE),
                              ("repeat", ONE, name, ()), ("call", ("a", name), None, "p", ()),
                              ("call", (), None, name, ()), ("let", "x", ("name", name)), ("let", "x", ("read", name, None))):
                self.wrong_body(statement)
            if name is not None:
                self.wrong_body(("call", (), name, "p", ()))

    def test_first_wrong_part(self):
        rest = [1], [1], [1], [1]
        self.wrong("name", "M", *rest)
        self.wrong("imports", "m", *rest)
        self.wrong("cells", "m", [], *rest[1:])
        self.wrong("procedures", "m", [], [], *rest[2:])
        self.wrong("carries", "m", [], [], [], [1])

    def test_lists(self):
        for part in ("imports", "cells", "procedures", "carries"):
            for value in (None, 1, "ab", {}, {"a": 1}, [None], [()], ["A"], [[]]):
                self.wrong(part, "m", **{part: value})

    def test_one_too_many(self):
        self.wrong("imports", "m", list("abcdefghi"))
        self.wrong("cells", "m", cells=[(name, None) for name in "abcdefghi"])
        self.wrong("procedures", "m", procedures=[procedure()] * 9)
        self.wrong("carries", "m", carries=[("c", None, ONE)] * 21)
        parameters = tuple((name, "count") for name in "abcdefg")
        self.wrong("procedures", "m", procedures=[procedure(parameters=parameters)])
        self.wrong("procedures", "m", procedures=[procedure(results=("count",) * 5)])
        self.wrong_body(*[("return", ())] * 41)

    def test_cells_and_carries(self):
        for length in (0, 10, -1, True, False, "1", Amount(1)):
            self.wrong("cells", "m", cells=[("c", length)])
        for cell in (["c", None], ("c",), ("c", None, None), "c", ("c", (1,))):
            self.wrong("cells", "m", cells=[cell])
        for number in (-1, 9, True, False, "0", ONE):
            self.wrong("carries", "m", carries=[("c", number, COIN)])
        for carry in (["c", None, ONE], ("c", ONE), ("c", None, 5), ("c", None, nested(7)), ("c", None, ONE, ONE)):
            self.wrong("carries", "m", carries=[carry])

    def test_procedures(self):
        good = procedure()
        for value in (
            list(good), good[:5], (*good, ()), ("proc", *good[1:]), (1, *good[1:]), (*good[:1], 1, *good[2:]),
            (*good[:1], None, *good[2:]), (*good[:3], [], (), ()), (*good[:4], [], ()), (*good[:5], []),
            (*good[:5], None), procedure(results=("number",)), procedure(results=(True,)), procedure(results="count"),
            procedure(parameters=(("a", "number"),)), procedure(parameters=(["a", "count"],)),
            procedure(parameters=(("a",),)), procedure(parameters=(("a", "count", 1),)), procedure(parameters=("ab",)),
            procedure(results=(["count"],)), procedure(parameters=(("a", ["count"]),)),
        ):
            self.wrong("procedures", "m", procedures=[good, value])

    def test_expressions(self):
        for value in (
            None, 1, True, "x", ONE[0], [*ONE], (), ("count",), ("count", True), ("count", "1"), ("count", Amount(1)),
            ("truth", 1), ("truth", None), ("amount", 1), ("amount", "1/2"), ("count", 1, 2), ("name", "x", None),
            ("read", "c"), ("read", "c", 1), ("read", "c", None, None), ("read", "c", ("truth", 1)), ("not",),
            ("not", ONE, ONE), ("not", None), ("+", ONE), ("+", ONE, ONE, ONE), ("+", ONE, 1), ("+", [*ONE], ONE),
            ("plus", ONE, ONE), (1, ONE), (True, ONE, ONE), (None, ONE), (["+"], ONE, ONE), nested(7),
            ("not", nested(6)), ("read", "c", nested(6)), ("+", ONE, ("read", "c", nested(5))), ("//", ONE, ONE),
            repeated(7, "not"), repeated(7, "read", "c"),
        ):
            self.wrong_body(("let", "x", value))
            self.wrong_body(("return", (ONE, value)))
            self.wrong_body(("if", value, (), ()))
            self.wrong_body(("put", "c", None, value))
            self.wrong_body(("call", (), None, "p", (value,)))
            self.wrong("carries", "m", carries=[("c", 0, value)])
            if value is not None:
                self.wrong_body(("add", "c", value, COIN))

    def test_statements(self):
        for value in (
            None, 1, "let", [], (), ["let", "x", ONE], ("let", "x"), ("let", "x", ONE, ONE), ("set", "x"),
            ("put", "c", COIN), ("add", "c", None), ("if", YES, ()), ("if", YES, [], ()), ("if", YES, (), []),
            ("if", YES, (), (), ()), ("if", YES, None, ()), ("repeat", ONE, "x"), ("repeat", ONE, "x", []),
            ("repeat", ONE, None, ()), ("while", YES, ()), ("while", YES, 1, []), ("call", [], None, "p", ()),
            ("call", (), None, "p", []), ("call", (), None, "p"), ("call", None, None, "p", ()), ("return",),
            ("return", []), ("return", ONE), ("return", None), ("stop", ()), (1, ()), (None,), (("let",), "x", ONE),
        ):
            self.wrong_body(("return", ()), value)
            self.wrong_body(("if", YES, (), (value,)))
        for most in (0, 101, -1, True, "1", None, Amount(1), 10 ** 20):
            self.wrong_body(("while", YES, most, ()))

    def test_lists_four_deep(self):
        for inner in (("if", YES, (), ()), ("repeat", ONE, "y", ()), ("while", YES, 3, ())):
            for middle in (("if", YES, (inner,), ()), ("if", YES, (), (inner,)), ("repeat", ONE, "x", (inner,)),
                           ("while", YES, 3, (inner,))):
                with_body(middle)
                self.wrong_body(("if", YES, (), (middle,)))
        self.wrong_body(("if", YES, (("return", ()),) * 41, ()))


if __name__ == "__main__":
    unittest.main()
