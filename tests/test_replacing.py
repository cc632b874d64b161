"""[50], [51] Replacing modules: stores behind replacements, and verdicts on runs."""

import unittest
from random import Random

from cases import argument, random_programs
from helpers import ODD_VALUES, amount, check_error, check_same
from versions import changed_version

from leastlog.amounts import Amount
from leastlog.errors import BadCarry, BadImport, InvalidArguments, InvalidCells, InvalidStop, Unchecked
from leastlog.failures import ImportRing, MissingModule, UnknownProcedure
from leastlog.formruns import FormRun
from leastlog.forms import Form
from leastlog.modules import Module
from leastlog.moduletexts import read_module
from leastlog.programs import Program, carried
from leastlog.regions import Region
from leastlog.replacing import judge, replaced_cells
from leastlog.runs import Run
from leastlog.systems import combination

BANK = "module bank\ncell vault\nexport procedure lend x:amount -> amount\n  add vault (x * -1/1)\n  return @vault\n"
TILL = """module till
import bank
cell cash
cells box 2
export procedure pay x:amount n:count -> amount
  let half = (x / 2)
  if (@cash less half)
    put box[0] = (half + @cash)
  let y = (x - half)
  call rest = bank.lend(y)
  return rest
procedure idle
  return
"""
PROGRAM = Program(read_module(BANK), read_module(TILL))
CELLS = {"bank.vault": Amount(10), "till.cash": Amount(1), "till.box.0": Amount(5), "till.box.1": Amount(7)}
CALL = ("till.pay", [Amount(3), 2])


def till(old="", new="", text=TILL):
    """The module with another part in its text."""
    assert old in text
    return read_module(text.replace(old, new))


def verdict(module, stop, cells=None, call=CALL):
    return judge(PROGRAM, module, *call, stop, CELLS if cells is None else cells)


def told(rows, held, flat):
    """The forms that rows tell by the held forms and the flat."""
    found = []
    for constant, weights, flat_weights in rows:
        total = Form(constant)
        for weight, one in zip([*weights, *flat_weights], [*held, *flat], strict=True):
            total = total + one * weight
        found.append(total)
    return found


def check_direction(case, way, still, moving, flat=()):
    """Fails unless the direction leaves some forms as they are, but not this one."""
    case.assertTrue(all(isinstance(one, Amount) and one.sign for one in way.values()))
    def pace(one):
        return one.linear_part.value_at({**{symbol: Amount(0) for symbol in one.symbols()}, **way})
    check_same(case, [pace(one) for one in [*still, *flat]], [Amount(0)] * len([*still, *flat]))
    case.assertNotEqual(pace(moving), Amount(0))


class ReplacedCellsTest(unittest.TestCase):
    def test_without_carries(self):
        module = read_module("module till\ncell cash\ncell tin\ncells box 1\n")
        check_same(self, replaced_cells(program=PROGRAM, module=module, cells=CELLS),
                   {"bank.vault": Amount(10), "till.box.0": Amount(5), "till.cash": Amount(1), "till.tin": Amount(0)})
        check_same(self, replaced_cells(PROGRAM, module, {"till.cash": Amount(2)}),
                   {"bank.vault": Amount(0), "till.box.0": Amount(0), "till.cash": Amount(2), "till.tin": Amount(0)})
        check_same(self, replaced_cells(PROGRAM, module), {cell: Amount(0) for cell in ("bank.vault", "till.box.0", "till.cash", "till.tin")})

    def test_carries_read_the_old_cells(self):
        module = read_module("module till\ncell cash\ncells box 3\ncarry box[1] = (@box[0] - (@cash * 3/2))\ncarry cash = @box[1]\ncarry box[2] = 1/3\n")
        check_same(self, replaced_cells(PROGRAM, module, CELLS),
                   {"bank.vault": Amount(10), "till.box.0": Amount(5), "till.box.1": amount("7/2"), "till.box.2": amount("1/3"), "till.cash": Amount(7)})

    def test_a_module_that_was_not_there(self):
        module = read_module("module shop\nimport till\ncells tin 2\ncarry tin[1] = 4/1\n")
        check_same(self, replaced_cells(PROGRAM, module, CELLS),
                   {"bank.vault": Amount(10), "shop.tin.0": Amount(0), "shop.tin.1": Amount(4), "till.box.0": Amount(5), "till.box.1": Amount(7),
                    "till.cash": Amount(1)})
        check_same(self, replaced_cells(Program(), read_module("module till\ncell cash\n")), {"till.cash": Amount(0)})

    def test_given_cells_do_not_change(self):
        given = dict(CELLS)
        found = replaced_cells(PROGRAM, till(), given)
        found["till.cash"] = None
        check_same(self, [given, replaced_cells(PROGRAM, till(), given)["till.cash"]], [CELLS, Amount(1)])

    def test_random_replacements(self):
        random = Random(50)
        for made in random_programs(50, 40):
            name = random.choice(made.modules())
            old = made.module_named(name)
            cells = {cell: Amount(random.randint(-5, 5)) for cell in made.cells()}
            new = Module(name, old.imports(), random.sample([("cash", None), ("box", 2), ("tin", 1)], random.randint(0, 3)), [], [])
            later = Program(*[new if one == name else made.module_named(one) for one in made.modules()]) if not made.importers(name) else None
            if later is None:
                continue
            forms = carried(old, new)
            expected = {cell: forms[cell].value_at(cells) if cell in forms else cells[cell] for cell in later.cells()}
            check_same(self, replaced_cells(made, new, cells), expected)


class JudgeTest(unittest.TestCase):
    def test_the_same_module(self):
        run = Run(PROGRAM, *CALL, CELLS)
        for stop, (place, _) in enumerate(run.walk()):
            found = verdict(till(), stop)
            check_same(self, [found.word, found.place, found.what, found.direction()], ["carried", place, None, None])
            check_same(self, found.held(), found.needed())

    def test_forms(self):
        found = verdict(till(), 3)
        held = [(("variable", 0, "x"), Form.symbol("0.0")), (("variable", 0, "half"), Form(0, {"0.0": Amount(1, 2)})),
                (("write", "till.box.0"), Form(0, {"0.0": Amount(1, 2), "till.cash": 1}))]
        check_same(self, [found.held(), found.place], [held, (("till.pay", "2", ()),)])
        found = judge(program=PROGRAM, module=till(), procedure="till.pay", arguments=(Amount(3), 2), stop=5, cells=CELLS)
        rest = [(("variable", 0, "y"), Form(0, {"0.0": Amount(1, 2)})), (("variable", 1, "x"), Form(0, {"0.0": Amount(1, 2)}))]
        check_same(self, [found.held(), found.place], [[*held[:2], *rest, held[2]], (("till.pay", "3", ()), ("bank.lend", "0", ()))])
        found = verdict(till(), 6)
        check_same(self, found.held()[-2:], [(("write", "bank.vault"), Form(0, {"bank.vault": 1, "0.0": Amount(-1, 2)})), held[2]])

    def test_over(self):
        found = verdict(till("half)", "x)"), None)
        check_same(self, [found.word, found.place, found.what, found.held(), found.needed(), found.told_rows(), found.direction()],
                   ["stop", None, None, [], [], [], None])

    def test_no_twin(self):
        found = verdict(till("  if (@cash less half)\n    put box[0] = (half + @cash)\n", ""), 2)
        check_same(self, [found.word, found.place, found.what, len(found.held()), found.needed(), found.told_rows(), found.direction()],
                   ["stop", (("till.pay", "1.a.0", ()),), None, 2, [], [], None])
        check_same(self, verdict(till("cells box 2\n", "cells box 2\ncarry cash = 9/1\n"), 2).word, "stop")

    def test_other_conditions(self):
        found = verdict(till("(@cash less half)", "(@cash less x)"), 2)
        check_same(self, [found.word, found.what, len(found.held()), len(found.needed()), found.told_rows(), found.direction()], ["test", 0, 2, 2, [], None])
        check_same(self, verdict(till("(@cash less half)", "(@cash less x)"), 1).word, "carried")
        more = till("  if (@cash less half)", "  if ((@cash less half) and (@cash less 9/1))")
        found = verdict(more, 2)
        check_same(self, [found.word, found.what, found.place], ["test", 1, (("till.pay", "1.a.0", ()),)])
        found = verdict(till("  if (@cash less half)", "  if yes"), 3)
        check_same(self, [found.word, found.what], ["test", 0])
        carries = till("cells box 2\n", "cells box 2\ncarry cash = (@cash * 1/2)\n")
        check_same(self, [verdict(carries, 2).word, verdict(carries, 2).what, verdict(carries, 1).word], ["test", 0, "carried"])

    def test_untold(self):
        found = verdict(till("let half = (x / 2)", "let half = ((x / 2) + @box[1])"), 1)
        check_same(self, [found.word, found.what, found.place, found.told_rows()], ["told", ("variable", 0, "half"), (("till.pay", "1", ()),), []])
        way = found.direction()
        check_direction(self, way, [one for _, one in found.held()], Form.symbol("till.box.1"))
        found = verdict(till("put box[0] = (half + @cash)", "put box[1] = @box[0]"), 3)
        check_same(self, [found.word, found.what], ["told", ("write", "till.box.1")])
        found = verdict(till("put box[0] = (half + @cash)", "put box[1] = @cash"), 3)
        check_same(self, [found.word, len(found.held()), found.needed()[-1]], ["carried", 3, (("write", "till.box.1"), Form.symbol("till.cash"))])

    def test_the_flat_tells(self):
        """What is told only because a test has shown two amounts to be the same."""
        text = "module till\ncell cash\ncell tin\nexport procedure look\n  if (@cash same @tin)\n    let y = @cash\n    let z = 1/1\n  return\n"
        made = Program(read_module(text))
        new = read_module(text.replace("let y = @cash", "let y = (@tin * 2/1)"))
        found = judge(made, new, "till.look", [], 2, {"till.cash": Amount(2), "till.tin": Amount(2)})
        check_same(self, found.word, "carried")
        flat = [Form.symbol("till.cash") - Form.symbol("till.tin")]
        check_same(self, told(found.told_rows(), [Form.symbol("till.cash")], flat), [Form(0, {"till.tin": 2})])
        less = Program(read_module(text.replace("same", "less")))
        new = read_module(text.replace("same", "less").replace("let y = @cash", "let y = (@tin * 2/1)"))
        found = judge(less, new, "till.look", [], 2, {"till.cash": Amount(1), "till.tin": Amount(2)})
        check_same(self, [found.word, found.what], ["told", ("variable", 0, "y")])

    def test_counts_and_truths_need_nothing(self):
        text = "module till\nexport procedure look n:count\n  let k = n\n  let b = yes\n  return\n"
        made = Program(read_module(text))
        found = judge(made, read_module(text.replace("= n", "= (n + 1)").replace("yes", "no")), "till.look", [1], 2)
        check_same(self, [found.word, found.held(), found.needed(), found.told_rows()], ["carried", [], [], []])

    def test_frames_count(self):
        bank = BANK.replace("cell vault\n", "cell vault\ncell spare\n")
        made = Program(read_module(bank), read_module(TILL))
        found = judge(made, read_module(bank.replace("  add", "  let fee = @spare\n  add")), *CALL, 6, CELLS)
        check_same(self, [found.word, found.place, found.what], ["told", (("till.pay", "3", ()), ("bank.lend", "1", ())), ("variable", 1, "fee")])

    def test_errors_of_with_module_come_first(self):
        for text, error, attributes in (
            ("module till\nimport shop\n", MissingModule, {"name": "shop", "importer": "till"}),
            ("module bank\nimport till\n", ImportRing, {"names": ["bank", "till"]}),
            ("module till\nprocedure p\n", Unchecked, {"module": "till"}),
            ("module bank\n", BadImport, {"importer": "till"}),
            ("module till\ncell cash\ncarry tin = 1/1\n", BadCarry, {"position": 0}),
        ):
            check_error(self, error, attributes, judge, PROGRAM, read_module(text), None, None, "x", 5)
            check_error(self, error, attributes, replaced_cells, PROGRAM, read_module(text), 5)

    def test_unknown_procedures(self):
        for value in (*ODD_VALUES, "till", "till.idle", "till.none", "bank.pay", "till.pay.0"):
            check_error(self, UnknownProcedure, {"name": value}, judge, PROGRAM, till(), value, None, "x", 5)
        for module in (till("export procedure pay", "procedure pay"), till("n:count", "n:truth"), till(" n:count", ""), till("x:amount n", "n:count x:amount z"),
                       till("procedure pay", "procedure paid"), Module("till")):
            check_error(self, UnknownProcedure, {"name": "till.pay"}, judge, PROGRAM, module, "till.pay", None, "x", 5)
        check_error(self, UnknownProcedure, {"name": "till.idle"}, judge, PROGRAM, till("procedure idle", "export procedure idle"), "till.idle", None, "x", 5)
        check_same(self, verdict(till("n:count -> amount", "k:count -> amount"), 0).word, "carried")

    def test_other_errors(self):
        for value in (*[value for value in ODD_VALUES if not isinstance(value, (list, tuple))], 5, [], [Amount(1)], [Amount(1), 2, 3]):
            check_error(self, InvalidArguments, {"position": None}, judge, PROGRAM, till(), "till.pay", value, "x", 5)
        check_error(self, InvalidArguments, {"position": 0}, judge, PROGRAM, till(), "till.pay", [3, True], "x", 5)
        check_error(self, InvalidArguments, {"position": 1}, judge, PROGRAM, till(), "till.pay", [Amount(3), True], "x", 5)
        for function, given in ((judge, (*CALL, "x")), (replaced_cells, ())):
            for value in (*[value for value in ODD_VALUES if not isinstance(value, dict) and value is not None], 5):
                check_error(self, InvalidCells, {"key": None}, function, PROGRAM, till(), *given, value)
            check_error(self, InvalidCells, {"key": "till"}, function, PROGRAM, till(), *given, {"till.cash": 1, "till": Amount(1)})
            check_error(self, InvalidCells, {"key": "till.cash"}, function, PROGRAM, till(), *given, {"till.cash": Form(1)})
            check_error(self, InvalidCells, {"key": None}, function, PROGRAM, till(), *given, {1: Amount(1)})
        check_error(self, InvalidCells, {"key": None}, judge, PROGRAM, till(), *CALL, None, 5)
        stops = Run(PROGRAM, *CALL, CELLS)
        stops.finish()
        for value in (*[value for value in ODD_VALUES if value is not None], -1, stops.stop_count, 10 ** 20, Amount(1)):
            check_error(self, InvalidStop, {"value": value}, judge, PROGRAM, till(), *CALL, value, CELLS)
        check_same(self, verdict(till(), stops.stop_count - 1).word, "carried")

    def test_results_are_new(self):
        carries, lost = verdict(till(), 3), verdict(till("(x / 2)", "((x / 2) + @box[1])"), 1)
        for query in (carries.held, carries.needed, carries.told_rows, lambda: carries.told_rows()[0][1], lambda: carries.told_rows()[0][2]):
            query().append(None)
            self.assertNotIn(None, query())
        lost.direction()["x"] = None
        self.assertNotIn("x", lost.direction())


class RandomVerdictsTest(unittest.TestCase):
    """Verdicts on runs of random programs, checked from outside."""

    def test_verdicts(self):
        random = Random(51)
        words = {"carried": 0, "stop": 0, "test": 0, "told": 0}
        for made in random_programs(510, 100):
            for text in [f"{name}.{text}" for name, part in made.interfaces().items() for text in part][:3]:
                module = changed_version(random, made, text.split(".")[0])
                arguments = [argument(random, sort) for _, sort in made.procedure_at(text)[3]]
                cells = {cell: Amount(random.randint(-2, 3)) for cell in made.cells()}
                run = Run(made, text, arguments, cells)
                run.finish()
                if run.stop_count > 200:
                    continue
                for stop in sorted({0, run.stop_count - 1, *[random.randrange(run.stop_count) for _ in range(3)]}):
                    words[self.check(made, module, text, arguments, stop, cells)] += 1
        self.assertGreater(min(words.values()), 10, words)

    def check(self, made, module, text, arguments, stop, cells):
        found = judge(made, module, text, arguments, stop, cells)
        later, store = made.with_module(module), replaced_cells(made, module, cells)
        run = at_stop(Run(made, text, arguments, cells), stop)
        twin = Run(later, text, arguments, store)
        while not twin.is_over and twin.place != run.place:
            twin.step()
        check_same(self, found.place, run.place)
        point = {**{f"0.{at}": one for at, one in enumerate(arguments) if isinstance(one, Amount)}, **cells}
        check_same(self, [(what, one.value_at(point)) for what, one in found.held()], amounts_of(run))
        if twin.is_over:
            check_same(self, [found.word, found.needed()], ["stop", []])
            return found.word
        check_same(self, [(what, one.value_at(point)) for what, one in found.needed()], amounts_of(twin))
        symbols = [Form.symbol(f"0.{at}") if isinstance(one, Amount) else one for at, one in enumerate(arguments)]
        first = at_stop(FormRun(made, text, symbols, run.path(), {cell: Form.symbol(cell) for cell in cells}), stop).conditions()
        forms = carried(made.module_named(module.name), module)
        begun = FormRun(later, text, symbols, twin.path(), {cell: forms.get(cell, Form.symbol(cell)) for cell in store})
        second = at_stop(begun, twin.stop_count - 1).conditions()
        apart = next((at for at in range(max(len(first), len(second))) if first[at:at + 1] != second[at:at + 1]), None)
        if apart is not None:
            check_same(self, [found.word, found.what, found.told_rows(), found.direction()], ["test", apart, [], None])
            return found.word
        flat = Region(first).flat()
        self.check_told(found, [one for _, one in found.held()], flat)
        return found.word

    def check_told(self, found, held, flat):
        if found.word == "carried":
            check_same(self, [told(found.told_rows(), held, flat), found.what, found.direction()], [[one for _, one in found.needed()], None, None])
            return
        check_same(self, [found.word, found.told_rows()], ["told", []])
        check_direction(self, found.direction(), held, dict(found.needed())[found.what], flat)
        before = found.needed()[:[what for what, _ in found.needed()].index(found.what)]
        self.assertTrue(all(combination(one, held, flat) for _, one in before))


def at_stop(run, stop):
    while not run.is_over and run.stop_count <= stop:
        run.step()
    return run


def amounts_of(run):
    shown = [(("variable", frame, name), value) for frame, part in enumerate(run.variables()) for name, value in part.items()]
    return [*[(what, value) for what, value in shown if isinstance(value, Amount)], *[(("write", cell), value) for cell, value in run.writes().items()]]


if __name__ == "__main__":
    unittest.main()
