"""[21] Programs, their linked order, and what new versions take over."""

import unittest
from itertools import permutations
from random import Random

from helpers import ODD_VALUES, check_error, check_same, form

from leastlog.amounts import Amount
from leastlog.checker import Fault
from leastlog.errors import BadCarry, BadImport, Unchecked
from leastlog.failures import DuplicateModule, ImportRing, MissingModule, UnknownModule, UnknownProcedure
from leastlog.forms import Form
from leastlog.moduletexts import read_module
from leastlog.programs import Program, carried


def module(name, *imports, more=""):
    return read_module(f"module {name}\n" + "".join(f"import {other}\n" for other in imports) + more)


def modules(imports):
    """Modules from a text such as "a:bc b: c:"."""
    return [module(part[0], *part[2:]) for part in imports.split()]


BANK = "cell vault\ncells box 2\nexport procedure take a:amount -> amount\n  return a\nprocedure hide\n  return\n"
TILL = "cell cash\nexport procedure sell a:amount\n  call b = bank.take(a)\n  put cash = b\n  return\n"


def till_program():
    return Program(module("till", "bank", more=TILL), module("bank", more=BANK))


class LinkingTest(unittest.TestCase):
    def test_linked_order(self):
        for imports, expected in (
            ("", ""), ("a:", "a"), ("b: a: c:", "abc"), ("a:b b:c c:", "cba"), ("a:c b: c:", "bca"), ("a:d b:a c: d:", "cdab"),
            ("a:bc b:d c:d d:", "dbca"), ("z: a:z m:", "mza"), ("b:a c:a a: d:bc", "abcd"), ("a:zy y: z: b:", "byza"),
        ):
            for order in permutations(modules(imports)):
                check_same(self, Program(*order).modules(), list(expected))

    def test_missing_modules(self):
        for imports, name, importer in (("a:b", "b", "a"), ("a:bc b:", "c", "a"), ("c:x b:zy", "z", "b"), ("a:b b:ac", "c", "b"),
                                        ("a:a b:z", "z", "b")):
            for order in permutations(modules(imports)):
                check_error(self, MissingModule, {"name": name, "importer": importer}, Program, *order)

    def test_rings(self):
        for imports, names in (
            ("a:a", "a"), ("a:b b:a", "ab"), ("b:c c:b a:b", "bc"), ("a:b b:c c:a", "abc"), ("a:c c:b b:a", "acb"),
            ("a:b b:c c:a d:e e:d", "de"), ("a:b b:ac c:b", "ab"), ("a:b b:c c:bd d:d", "d"), ("a:dc b:a c:b d:b", "acb"),
            ("a:bc b:d c:d d:a", "abd"), ("z:y y:z m:n n:m", "mn"), ("a:bf b:c c:a f:g g:a", "abc"), ("c:c b:b", "b"),
            ("a:b b:c c:d d:ab", "bcd"),
        ):
            for order in permutations(modules(imports)):
                check_error(self, ImportRing, {"names": list(names)}, Program, *order)

    def test_random_imports(self):
        random = Random(21)
        kinds = {True: 0, False: 0}
        for _ in range(150):
            names = list("abcdef")
            imports = {name: random.sample(names, random.randint(0, 2)) for name in names}
            listed = [module(name, *imports[name]) for name in names]
            random.shuffle(listed)
            rings = [ring for size in range(1, 7) for ring in permutations(names, size)
                     if all(ring[(index + 1) % size] in imports[ring[index]] for index in range(size))]
            kinds[bool(rings)] += 1
            if rings:
                shortest = min(rings, key=lambda ring: (len(ring), ring))
                check_error(self, ImportRing, {"names": list(shortest)}, Program, *listed)
            else:
                order = Program(*listed).modules()
                for index, name in enumerate(order):
                    ready = [other for other in order[index:] if set(imports[other]) <= set(order[:index])]
                    self.assertEqual(name, min(ready))
        self.assertGreater(min(kinds.values()), 10)

    def test_duplicates(self):
        a, b, other = module("a"), module("b", "z"), module("a", "q")
        check_error(self, DuplicateModule, {"name": "a"}, Program, a, other)
        check_error(self, DuplicateModule, {"name": "b"}, Program, a, b, b, a)
        check_error(self, DuplicateModule, {"name": "a"}, Program, b, a, a, b)

    def test_order_of_errors(self):
        faulty = "procedure p\n"
        check_error(self, MissingModule, {"name": "z", "importer": "c"}, Program, *modules("a:b b:a c:z"))
        check_error(self, ImportRing, {"names": ["a"]}, Program, module("a", "a"), module("b", more=faulty))
        first = module("b", more=faulty)
        check_error(self, Unchecked, {"module": "b", "fault": Fault("return", "p", "0")}, Program,
                    module("a", "b", more=faulty), first)
        check_error(self, Unchecked, {"module": "a", "fault": Fault("return", "p", "0")}, Program,
                    module("a", more=faulty), module("b", more="cell c\ncell c\n"))
        check_error(self, Unchecked, {"module": "m", "fault": Fault("name", None, None)}, Program, *modules("m:nn n:"))
        text = "procedure p\n  call a.q()\n  return\n"
        check_error(self, Unchecked, {"module": "m", "fault": Fault("procedure", "p", "0")}, Program,
                    module("m", "a", more=text), module("a", more="procedure q\n  return\n"))


class ProgramTest(unittest.TestCase):
    def test_queries(self):
        program = till_program()
        check_same(self, [program.modules(), len(program), len(Program())], [["bank", "till"], 2, 0])
        check_same(self, program.cells(), ["bank.box.0", "bank.box.1", "bank.vault", "till.cash"])
        check_same(self, program.interfaces(), {"bank": {"take": (("amount",), ("amount",))}, "till": {"sell": (("amount",), ())}})
        check_same(self, program.module_named(name="till"), module("till", "bank", more=TILL))
        check_same(self, program.procedure_at(text="bank.hide"), ("procedure", False, "hide", (), (), (("return", ()),)))
        check_same(self, program.procedure_at("till.sell")[:4], ("procedure", True, "sell", (("a", "amount"),)))
        check_same(self, [program.importers(name="bank"), program.importers("till")], [["till"], []])
        check_same(self, Program(*modules("d:a b:a c: a:")).importers("a"), ["b", "d"])
        check_same(self, [Program().modules(), Program().cells(), Program().interfaces()], [[], [], {}])

    def test_returned_values_are_apart(self):
        program = till_program()
        before = [program.modules(), program.cells(), program.interfaces(), program.importers("bank")]
        program.modules().clear(), program.cells().append(1), program.importers("bank").clear()
        program.interfaces()["bank"].clear()
        program.interfaces().clear()
        check_same(self, [program.modules(), program.cells(), program.interfaces(), program.importers("bank")], before)

    def test_unknown_names(self):
        program = till_program()
        for value in (*ODD_VALUES, 1, "bank.take", "nobody", "Bank"):
            check_error(self, UnknownModule, {"name": value}, program.module_named, value)
            check_error(self, UnknownModule, {"name": value}, program.importers, value)
        for value in (*ODD_VALUES, 1, "bank", "take", "bank.give", "nobody.take", "bank.take.", "bank.vault", ".", "bank."):
            check_error(self, UnknownProcedure, {"name": value}, program.procedure_at, value)

    def test_equality(self):
        self.assertEqual(till_program(), Program(module("bank", more=BANK), module("till", "bank", more=TILL)))
        self.assertEqual(Program(), Program())
        for other in (Program(), Program(module("bank", more=BANK)), "till", None, 2,
                      Program(module("bank", more=BANK + "procedure q\n  return\n"), module("till", "bank", more=TILL))):
            self.assertFalse(till_program() == other)

    def test_carries_do_not_matter(self):
        program = Program(module("a", more="cell c\ncarry zz = yes\ncarry c = (@c * @c)\n"))
        check_same(self, program.cells(), ["a.c"])


class WithModuleTest(unittest.TestCase):
    def test_new_versions(self):
        program = till_program()
        other = module("bank", more=BANK + "procedure more\n  return\n")
        changed = program.with_module(module=other)
        check_same(self, changed, Program(other, module("till", "bank", more=TILL)))
        check_same(self, program, till_program())
        self.assertEqual(program.with_module(module("bank", more=BANK)), program)
        wider = program.with_module(module("audit", "bank", "till", more="cell c\ncarry c = 1/2\n"))
        check_same(self, [wider.modules(), program.modules()], [["bank", "till", "audit"], ["bank", "till"]])

    def test_errors_in_their_order(self):
        program = till_program()
        bad_carry = "carry nothing = 1/1\n"
        faulty = "procedure p\n"
        check_error(self, MissingModule, {"name": "x", "importer": "bank"}, program.with_module,
                    module("bank", "till", "x", more=bad_carry + faulty))
        check_error(self, ImportRing, {"names": ["bank", "till"]}, program.with_module,
                    module("bank", "till", more=bad_carry + faulty))
        check_error(self, Unchecked, {"module": "bank", "fault": Fault("return", "p", "0")}, program.with_module,
                    module("bank", more=bad_carry + faulty))
        check_error(self, BadImport, {"importer": "till", "fault": Fault("procedure", "sell", "0")}, program.with_module,
                    module("bank", more=bad_carry))
        check_error(self, BadCarry, {"position": 0}, program.with_module,
                    module("bank", more="cell vault\ncells box 2\n" + bad_carry + BANK.split("2\n")[1]))
        check_error(self, BadCarry, {"position": 0}, program.with_module, module("new", more=bad_carry))
        check_error(self, ImportRing, {"names": ["new"]}, program.with_module, module("new", "new"))
        check_same(self, program, till_program())

    def test_first_importer(self):
        caller = "procedure p\n  call a.q()\n  return\n"
        program = Program(module("z", "a", more=caller), module("m", "a", more=caller), module("b", "z", "m"),
                          module("a", more="export procedure q\n  return\n"))
        check_error(self, BadImport, {"importer": "m", "fault": Fault("amount", "p", "0")}, program.with_module,
                    module("a", more="export procedure q a:count\n  return\n"))


OLD = module("m", more="cell cash\ncell gone\ncells box 3\n")


def new_version(*carries, cells="cell cash\ncell fresh\ncells box 4\n"):
    return module("m", more=cells + "".join(f"carry {carry}\n" for carry in carries))


class CarriedTest(unittest.TestCase):
    def test_without_carries(self):
        expected = {"m.box.0": Form.symbol("m.box.0"), "m.box.1": Form.symbol("m.box.1"), "m.box.2": Form.symbol("m.box.2"),
                    "m.box.3": Form(), "m.cash": Form.symbol("m.cash"), "m.fresh": Form()}
        check_same(self, carried(OLD, new_version()), expected)
        check_same(self, carried(old=None, new=new_version()), {text: Form() for text in expected})
        single = module("m", more="cell box\ncells cash 1\n")
        check_same(self, carried(OLD, single), {"m.box": Form(), "m.cash.0": Form()})
        check_same(self, carried(OLD, module("m")), {})

    def test_expressions(self):
        def cell(text, weight=1):
            return Form(0, {f"m.{text}": Amount(weight) if isinstance(weight, int) else weight})
        for expression, expected in (
            ("3/2", form("3/2")), ("@cash", cell("cash")), ("@gone", cell("gone")), ("@box[2]", cell("box.2")),
            ("(@cash + @box[0])", cell("cash") + cell("box.0")), ("(@cash - @cash)", Form()), ("(@cash - 1/2)", cell("cash") - Amount(1, 2)),
            ("(@cash * 2/1)", cell("cash", 2)), ("(@cash / -2/3)", cell("cash", Amount(-3, 2))), ("(@cash * 0/1)", Form()),
            ("(3/1 * 1/3)", Form(1)), ("(((@cash + 1/1) * 2/1) / 4/1)", cell("cash", Amount(1, 2)) + Amount(1, 2)),
        ):
            for target in ("cash", "fresh", "box[3]"):
                found = carried(OLD, new_version(f"{target} = {expression}"))
                key = "m." + target.replace("[", ".").replace("]", "")
                check_same(self, found[key], expected)
                self.assertEqual(list(found), sorted(found))
                check_same(self, {text: found[text] for text in found if text != key},
                           {text: told for text, told in carried(OLD, new_version()).items() if text != key})
        swapped = carried(OLD, new_version("cash = @box[0]", "box[0] = @cash"))
        check_same(self, [swapped["m.cash"], swapped["m.box.0"]], [Form.symbol("m.box.0"), Form.symbol("m.cash")])
        check_same(self, carried(None, new_version("cash = (1/2 + 1/3)"))["m.cash"], form("5/6"))

    def test_bad_carries(self):
        for carry in ("gone = 1/1", "other = 1/1", "cash[0] = 1/1", "box = 1/1", "box[4] = 1/1", "gone[1] = 1/1"):
            check_error(self, BadCarry, {"position": 1}, carried, OLD, new_version("fresh = 1/1", carry))
        check_error(self, BadCarry, {"position": 2}, carried, OLD, new_version("cash = 1/1", "box[0] = @cash", "cash = 1/1"))
        check_error(self, BadCarry, {"position": 1}, carried, OLD, new_version("box[0] = 1/1", "box[0] = yes", "zz = 1/1"))
        for expression in (
            "1", "yes", "x", "@fresh", "@box", "@box[3]", "@box[-1]", "@cash[0]", "@box[x]", "@box[(0 + 1)]", "@box[yes]",
            "@box[1/1]", "@box[@cash]", "(@cash * 2)", "(@cash / 2)", "(@cash * @box[0])", "(2/1 * @cash)", "(@cash / 0/1)",
            "(@cash * (1/1 + 1/1))", "(1/1 / @cash)", "(@cash + 1)", "(1 + 2)", "(@cash same @cash)", "(@cash less 1/1)", "(not yes)",
            "(yes and no)", "(@cash + (@cash + @nope))", "(1 is 2)", "(@nope * 0/1)",
        ):
            check_error(self, BadCarry, {"position": 1}, carried, OLD, new_version("box[1] = @cash", f"cash = {expression}"))
        for expression in ("@cash", "(1/1 + @cash)", "(@cash * 0/1)"):
            check_error(self, BadCarry, {"position": 0}, carried, None, new_version(f"cash = {expression}"))


if __name__ == "__main__":
    unittest.main()
