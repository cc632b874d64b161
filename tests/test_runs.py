"""[22] to [24] Plain runs."""

import unittest
from fractions import Fraction
from random import Random

from helpers import ODD_VALUES, check_error, check_same
from makers import Maker
from reference import Reference, plain

from leastlog.amounts import Amount
from leastlog.errors import InvalidArguments, InvalidCells, Over
from leastlog.failures import UnknownProcedure
from leastlog.forms import Form
from leastlog.moduletexts import read_module
from leastlog.programs import Program
from leastlog.runs import Run


def plainly(value):
    """A value with tuples in place of Amounts, as plain makes them of Fractions."""
    if isinstance(value, Amount):
        return "amount", value.top, value.bottom
    if isinstance(value, (list, tuple)):
        return type(value)(plainly(part) for part in value)
    if isinstance(value, dict):
        return {key: plainly(part) for key, part in value.items()}
    return value


def program(body, header="export procedure p", cells="cell c\ncells r 3\n", more=""):
    """A program of one module m with these lines of procedure p, and perhaps a module bank."""
    bank = ""
    if "bank." in body:
        bank = "import bank\n"
    lines = "".join(f"  {line}\n" for line in body.splitlines())
    modules = [read_module(f"module m\n{bank}{cells}{more}{header}\n{lines}")]
    if bank:
        modules.append(read_module(BANK))
    return Program(*modules)


BANK = """module bank
cell vault
procedure half a:amount -> amount
  let b = (a / 2)
  return b
export procedure take a:amount n:count -> amount truth
  repeat n as turn
    call h = half(a)
    add vault h
  return @vault, (n below 3)
"""


def run_of(body, arguments=(), cells=None, **options):
    return Run(program(body, **options), "m.p", arguments, cells)


def events(run, *kinds):
    """The events of these kinds of the whole run."""
    run.finish()
    return [event for event in run.trace() if event[0] in kinds]


def labels(run):
    """The labels and rounds of the innermost frames of all stops."""
    return [(place[-1][1], place[-1][2]) for place, _ in run.walk()]


class RandomRunsTest(unittest.TestCase):
    def setUp(self):
        random = Random(22)
        self.random = random
        self.cases = []
        while len(self.cases) < 250:
            maker = Maker(random)
            modules = [maker.module(name) for name in ("aa", "bb", "cc")]
            made = Program(*modules)
            exported = [f"{name}.{text}" for name, told in made.interfaces().items() for text in told]
            for text in exported[:2]:
                cells = {cell: random.randint(-2, 3) for cell in made.cells() if random.random() < 0.7}
                arguments = [self.argument(sort) for _, sort in made.procedure_at(text)[3]]
                self.cases.append((modules, made, text, arguments, cells))

    def argument(self, sort):
        random = self.random
        if sort == "amount":
            return Amount(random.randint(-4, 4), random.randint(1, 3))
        return random.randint(-1, 4) if sort == "count" else random.random() < 0.5

    def test_as_the_reference(self):
        seen = {}
        for modules, made, text, arguments, cells in self.cases:
            store = {cell: Amount(top) for cell, top in cells.items()}
            run = Run(made, text, arguments, store)
            values = [Fraction(one.top, one.bottom) if isinstance(one, Amount) else one for one in arguments]
            other = Reference(modules, text, values, {cell: Fraction(top) for cell, top in cells.items()})
            if len(other.events) > 2000:
                continue
            self.check_run(run, other)
            check_same(self, Run.traced(made, text, arguments, store), run.trace())
            outcome = run.outcome[0] if run.outcome[0] == "gave" else run.outcome[1]
            seen[outcome] = seen.get(outcome, 0) + 1
        self.assertGreater(min(seen.get(word, 0) for word in ("gave", "zero", "row", "bound")), 0)

    def check_run(self, run, other):
        stops = [event for event in other.events if event[0] == "stop"]
        begun = run.clone()
        found = []
        for place, variables in run.walk():
            check_same(self, [run.place, run.variables()], [place, variables])
            found.append(("stop", place, variables))
            check_same(self, run.stop_count, len(found))
            check_same(self, run.trace()[-1], found[-1])
        check_same(self, plainly(found), plain(stops))
        check_same(self, plainly(run.trace()), plain(other.events))
        check_same(self, plainly(run.outcome), plain(other.events[-1]))
        check_same(self, run.path(), [event[1] for event in other.events if event[0] == "test"])
        check_same(self, run.reads(), sorted(other.reads))
        check_same(self, plainly(run.writes()), plain(dict(sorted(other.written.items()))))
        check_same(self, [run.place, run.variables(), run.is_over], [None, (), True])
        check_same(self, begun.stop_count, 1)
        begun.finish()
        check_same(self, [begun.trace(), begun.outcome, begun.reads()], [run.trace(), run.outcome, run.reads()])


class StopsTest(unittest.TestCase):
    def test_labels_and_rounds(self):
        body = "let x = 0\nrepeat 2 as i\n  repeat (i + 1) as j\n    set x = (x + 1)\n  if (x is 1)\n    set x = x\n  else\n" \
               "    set x = (x + 0)\nwhile (x below 5) up to 3\n  set x = (x + 1)\nreturn"
        self.assertEqual(labels(run_of(body)), [
            ("0", ()), ("1", ()), ("1.a.0", (0,)), ("1.a.0.a.0", (0, 0)), ("1.a.1", (0,)), ("1.a.1.a.0", (0,)),
            ("1.a.0", (1,)), ("1.a.0.a.0", (1, 0)), ("1.a.0.a.0", (1, 1)), ("1.a.1", (1,)), ("1.a.1.b.0", (1,)),
            ("2", ()), ("2.a.0", (0,)), ("2.a.0", (1,)), ("3", ())])

    def test_places_of_calls(self):
        body = "repeat 1 as i\n  call x, t = bank.take(3/1, 2)\nreturn"
        run = run_of(body)
        places = [place for place, _ in run.walk()]
        outer = ("m.p", "0.a.0", (0,))
        check_same(self, places, [
            (("m.p", "0", ()),), (outer,), (outer, ("bank.take", "0", ())),
            (outer, ("bank.take", "0.a.0", (0,))), (outer, ("bank.take", "0.a.0", (0,)), ("bank.half", "0", ())),
            (outer, ("bank.take", "0.a.0", (0,)), ("bank.half", "1", ())), (outer, ("bank.take", "0.a.1", (0,))),
            (outer, ("bank.take", "0.a.0", (1,))), (outer, ("bank.take", "0.a.0", (1,)), ("bank.half", "0", ())),
            (outer, ("bank.take", "0.a.0", (1,)), ("bank.half", "1", ())), (outer, ("bank.take", "0.a.1", (1,))),
            (outer, ("bank.take", "1", ())), (("m.p", "1", ()),)])
        check_same(self, run.reads(), ["bank", "bank.vault", "m"])
        check_same(self, run.writes(), {"bank.vault": Amount(3)})

    def test_variables_in_the_order_of_their_bindings(self):
        body = "let z = n\nrepeat 2 as b\n  let y = b\n  call x, t = bank.take(a, b)\n  set z = 7\nlet w = 1\nreturn"
        run = run_of(body, [1, Amount(1, 2)], header="export procedure p n:count a:amount")
        found = [[list(frame.items()) for frame in variables] for place, variables in run.walk() if len(place) == 1]
        half, fourth = Amount(1, 2), Amount(1, 4)
        first = [("n", 1), ("a", half)]
        check_same(self, found, [
            [first], [[*first, ("z", 1)]], [[*first, ("z", 1), ("b", 0)]], [[*first, ("z", 1), ("b", 0), ("y", 0)]],
            [[*first, ("z", 1), ("b", 0), ("y", 0), ("x", Amount(0)), ("t", True)]],
            [[*first, ("z", 7), ("b", 1)]], [[*first, ("z", 7), ("b", 1), ("y", 1)]],
            [[*first, ("z", 7), ("b", 1), ("y", 1), ("x", fourth), ("t", True)]], [[*first, ("z", 7)]],
            [[*first, ("z", 7), ("w", 1)]]])

    def test_turn_variables_are_bound_anew(self):
        run = run_of("repeat 3 as i\n  set i = (i + 10)\n  put r[(i - 10)] = 1/1\nreturn")
        found = [variables[0]["i"] for place, variables in run.walk() if place[0][1] == "0.a.1"]
        check_same(self, found, [10, 11, 12])

    def test_truth_of_a_while_belongs_to_the_step_before(self):
        run = run_of("while (@c less 2/1) up to 5\n  add c 1/1\nreturn")
        run.step()
        check_same(self, [run.place, run.path()], [(("m.p", "0.a.0", (0,)),), [True]])
        run.step()
        check_same(self, [run.place, run.path()], [(("m.p", "0.a.0", (1,)),), [True, True]])
        run.step()
        check_same(self, [run.place, run.path()], [(("m.p", "1", ()),), [True, True, False]])

    def test_empty_lists_and_many_turns(self):
        body = f"repeat {10 ** 29} as i\nrepeat -{10 ** 29} as j\n  put c = 1/1\nif yes\nif no\n  put c = 1/1\n" \
               "while no up to 100\nwhile (@c less 0/1) up to 3\nrepeat 0 as k\n  put c = 1/1\nreturn"
        run = run_of(body)
        self.assertEqual([label for label, _ in labels(run)], list("01234567"))
        check_same(self, run.writes(), {})
        run = run_of("while (0/1 same @c) up to 4\nreturn")
        run.finish()
        check_same(self, [run.outcome, run.path(), run.stop_count], [("failed", "bound"), [True] * 5, 1])

    def test_example(self):
        text = "module till\ncell cash\nexport procedure pay x:amount -> amount\n  let kept = (x / 2)\n" \
               "  if (@cash less kept)\n    put cash = kept\n  return kept\n"
        run = Run(Program(read_module(text)), "till.pay", [Amount(3)])
        check_same(self, run.finish(), ("gave", (Amount(3, 2),)))
        check_same(self, [run.path(), run.reads(), run.writes(), run.stop_count, run.trace()[0]],
                   [[True], ["till", "till.cash"], {"till.cash": Amount(3, 2)}, 4,
                    ("stop", (("till.pay", "0", ()),), ({"x": Amount(3)},))])


class EventsTest(unittest.TestCase):
    def test_all_operands_are_evaluated_from_left_to_right(self):
        body = "let t = ((@r[0] less @r[1]) and (@r[1] same @r[2]))\nlet u = ((@c same 0/1) or (@r[2] less @c))\nreturn t, u"
        run = run_of(body, header="export procedure p -> truth truth")
        zero = Amount(0)
        check_same(self, events(run, "read", "test", "gave"), [
            ("read", "m.r.0", zero), ("read", "m.r.1", zero), ("test", False), ("read", "m.r.1", zero), ("read", "m.r.2", zero),
            ("test", True), ("read", "m.c", zero), ("test", True), ("read", "m.r.2", zero), ("read", "m.c", zero),
            ("test", False), ("gave", (False, True))])
        check_same(self, run.path(), [False, True, True, False])

    def test_reads_and_writes(self):
        body = "put c = 2/1\nlet x = @c\nadd c @r[1]\nadd r[2] @c\nput c = (@c * 2)\nreturn"
        run = run_of(body, (), {"m.c": Amount(9), "m.r.1": Amount(1, 2)})
        found = events(run, "read", "write")
        check_same(self, found, [
            ("write", "m.c", Amount(2)), ("read", "m.c", Amount(2)), ("read", "m.r.1", Amount(1, 2)), ("read", "m.c", Amount(2)),
            ("write", "m.c", Amount(5, 2)), ("read", "m.c", Amount(5, 2)), ("read", "m.r.2", Amount(0)),
            ("write", "m.r.2", Amount(5, 2)), ("read", "m.c", Amount(5, 2)), ("write", "m.c", Amount(5))])
        check_same(self, [run.reads(), run.writes()], [["m", "m.r.1", "m.r.2"], {"m.c": Amount(5), "m.r.2": Amount(5, 2)}])

    def test_operations(self):
        sorts = "amount amount amount count"
        body = "let x = (((a * 3) / 2) - (1/2 * 1/3))\nlet y = ((a / -1/3) * n)\n" \
               "return x, y, ((a + a) / (n - 5)), (n * (n + -3))"
        run = run_of(body, [Amount(2, 3), 2], header=f"export procedure p a:amount n:count -> {sorts}")
        check_same(self, run.finish(), ("gave", (Amount(5, 6), Amount(-4), Amount(-4, 9), -2)))
        body = "return (1 is 1), (2 below 1), (not (1 below 2)), (a same 2/3)"
        run = run_of(body, [Amount(2, 3)], header="export procedure p a:amount -> truth truth truth truth")
        check_same(self, run.finish(), ("gave", (True, False, False, True)))

    def test_results_and_truths_are_kept_apart(self):
        run = run_of("return n, t", [1, True], header="export procedure p n:count t:truth -> count truth")
        check_same(self, run.finish(), ("gave", (1, True)))
        check_same(self, run.trace()[0][2], ({"n": 1, "t": True},))


class FailuresTest(unittest.TestCase):
    def check_failure(self, body, word, expected, **options):
        run = run_of(body, (), {"m.c": Amount(5)}, **options)
        found = events(run, "read", "write", "test", "failed", "gave")
        check_same(self, found, [*expected, ("failed", word)])
        check_same(self, [run.outcome, run.writes(), run.place, run.variables()], [("failed", word), {}, None, ()])
        check_error(self, Over, {}, run.step)
        check_same(self, run.finish(), ("failed", word))
        return run

    def test_zero(self):
        read = ("read", "m.c", Amount(5))
        self.check_failure("let n = 0\nlet x = (@c / n)\nreturn", "zero", [read])
        self.check_failure("put c = 1/1\nlet x = (@c / (1 - 1))\nreturn", "zero",
                           [("write", "m.c", Amount(1)), ("read", "m.c", Amount(1))])
        self.check_failure("put r[7] = (@c / 0)\nreturn", "zero", [read])
        self.check_failure("let x = @r[9]\nlet y = (@c / 0)\nreturn", "row", [])
        self.check_failure("if ((@c / 0) same @c)\nreturn", "zero", [read])
        self.check_failure("call x, t = bank.take((@c / 0), 1)\nreturn", "zero", [read])

    def test_row(self):
        read = ("read", "m.c", Amount(5))
        for number in ("3", "-1", "9", str(10 ** 29), f"({10 ** 29} * {10 ** 29})", "-10"):
            self.check_failure(f"let x = @r[{number}]\nreturn", "row", [])
            self.check_failure(f"put r[{number}] = @c\nreturn", "row", [read])
            self.check_failure(f"add r[{number}] @c\nreturn", "row", [read])
        body = "let n = 9\nrepeat 20 as i\n  set n = (n * n)\nput r[n] = 1/1\nreturn"
        self.check_failure(body, "row", [])
        self.check_failure("put c = 1/1\nadd r[3] @r[4]\nreturn", "row", [("write", "m.c", Amount(1))])

    def test_bound(self):
        reads = [("read", "m.c", Amount(5)), ("test", False)]
        run = self.check_failure("while (not (@c same 1/1)) up to 2\n  let x = 1\nreturn", "bound", reads * 3)
        check_same(self, [run.stop_count, run.path(), run.reads()], [3, [False] * 3, ["m", "m.c"]])
        run = run_of("let n = 0\nwhile (n below 3) up to 3\n  set n = (n + 1)\nreturn")
        check_same(self, run.finish(), ("gave", ()))
        self.check_failure("let n = 0\nwhile (n below 4) up to 3\n  set n = (n + 1)\nreturn", "bound", [])
        self.check_failure("repeat 2 as i\n  while yes up to 1\n    put r[i] = 1/1\nreturn", "bound", [("write", "m.r.0", Amount(1))])

    def test_failures_inside_calls(self):
        more = "procedure q\n  put c = 3/1\n  let x = @r[3]\n  return\n"
        run = self.check_failure("put r[0] = 1/1\ncall q()\nput r[1] = 1/1\nreturn", "row",
                                 [("write", "m.r.0", Amount(1)), ("write", "m.c", Amount(3))], more=more)
        self.assertEqual(run.stop_count, 4)


class RunTest(unittest.TestCase):
    def test_over(self):
        run = run_of("return")
        check_same(self, [run.is_over, run.outcome, run.stop_count, run.place], [False, None, 1, (("m.p", "0", ()),)])
        self.assertIsNone(run.step())
        check_same(self, [run.is_over, run.outcome, run.place, run.variables()], [True, ("gave", ()), None, ()])
        check_error(self, Over, {}, run.step)
        check_same(self, [run.finish(), list(run.walk()), run.stop_count], [("gave", ()), [], 1])
        check_same(self, run.trace(), [("stop", (("m.p", "0", ()),), ({},)), ("gave", ())])

    def test_walk_from_the_middle(self):
        run = run_of("let x = 1\nlet y = 2\nreturn")
        run.step()
        walk = run.walk()
        check_same(self, next(walk), ((("m.p", "1", ()),), ({"x": 1},)))
        check_same(self, run.stop_count, 2)
        check_same(self, next(walk), ((("m.p", "2", ()),), ({"x": 1, "y": 2},)))
        check_same(self, [run.place, run.is_over], [(("m.p", "2", ()),), False])
        self.assertEqual(list(walk), [])
        self.assertTrue(run.is_over)

    def test_clones(self):
        run = run_of("let x = 1\nrepeat 2 as i\n  put r[i] = 1/1\n  set x = (x + i)\nlet t = (@c same 0/1)\nreturn")
        copies = [run.clone()]
        while not run.is_over:
            run.step()
            copies.append(run.clone())
        for index, copy in enumerate(copies):
            check_same(self, copy.stop_count, min(index + 1, len(copies) - 1))
            before = [copy.place, copy.variables(), copy.trace()]
            other = copy.clone()
            other.finish()
            check_same(self, [copy.place, copy.variables(), copy.trace()], before)
            copy.finish()
            for one in (copy, other):
                check_same(self, [one.trace(), one.writes(), one.reads(), one.path(), one.outcome, one.stop_count],
                           [run.trace(), run.writes(), run.reads(), run.path(), run.outcome, run.stop_count])

    def test_paths_of_clones(self):
        run = run_of("let t = (@c same 0/1)\nlet u = (@c less 0/1)\nreturn")
        run.step()
        other = run.clone()
        other.finish()
        run.path().clear()
        check_same(self, [run.path(), other.path()], [[True], [True, False]])
        run.finish()
        check_same(self, [run.path(), other.path()], [[True, False], [True, False]])

    def test_passed_and_returned_values_are_apart(self):
        made = program("let x = (@c + a)\nput c = x\nreturn x", header="export procedure p a:amount -> amount")
        arguments, cells = [Amount(1)], {"m.c": Amount(2)}
        run = Run(program=made, procedure="m.p", arguments=arguments, cells=cells)
        arguments.append(5)
        cells["m.c"] = Amount(7)
        run.step()
        run.variables()[0]["x"] = 1
        run.trace()[0][2][0].clear()
        for found in (run.trace(), run.path(), run.reads(), run.writes()):
            found.clear()
        check_same(self, run.variables(), ({"a": Amount(1), "x": Amount(3)},))
        check_same(self, run.finish(), ("gave", (Amount(3),)))
        check_same(self, run.trace()[0], ("stop", (("m.p", "0", ()),), ({"a": Amount(1)},)))
        check_same(self, [arguments, cells], [[Amount(1), 5], {"m.c": Amount(7)}])
        check_same(self, Run(made, "m.p", (Amount(1),), {"m.c": Amount(2)}).finish(), ("gave", (Amount(3),)))

    def test_unknown_procedures(self):
        made = program("call x, t = bank.take(1/1, 1)\nreturn")
        for value in (*ODD_VALUES, 1, "p", "m", "m.q", "bank.half", "m.p ", "nobody.p", "m.c"):
            check_error(self, UnknownProcedure, {"name": value}, Run, made, value, None, 5)
            check_error(self, UnknownProcedure, {"name": value}, Run.traced, made, value, None, 5)

    def test_wrong_arguments(self):
        made = program("return", header="export procedure p a:amount n:count t:truth")
        good = [Amount(1), 1, True]
        Run(made, "m.p", good), Run(made, "m.p", tuple(good))
        for value in (None, 1, "abc", {}, [], good[:2], [*good, 1], {0: 1, 1: 2, 2: 3}):
            check_error(self, InvalidArguments, {"position": None}, Run, made, "m.p", value, 5)
        for position, values in enumerate((
            (1, True, None, "1", Form(1), [Amount(1)]), (True, None, Amount(1), "1", [1]), (1, 0, None, Amount(1), "yes"),
        )):
            for value in values:
                arguments = [*good[:position], value, *good[position + 1:]]
                check_error(self, InvalidArguments, {"position": position}, Run, made, "m.p", arguments, 5)
                check_error(self, InvalidArguments, {"position": position}, Run.traced, made, "m.p",
                            [*good[:position], value, *[None] * (2 - position)])

    def test_wrong_cells(self):
        made = program("return")
        Run(made, "m.p", [], {}), Run(made, "m.p", [], {"m.c": Amount(1), "m.r.2": Amount(0)})
        for value in (5, True, [], (), "m.c", [("m.c", Amount(1))], Amount(1)):
            check_error(self, InvalidCells, {"key": None}, Run, made, "m.p", [], value)
        for cells, key in (
            ({"m.c": 1}, "m.c"), ({"m.c": True}, "m.c"), ({"m.c": None}, "m.c"), ({"m.d": Amount(1)}, "m.d"), ({"c": Amount(1)}, "c"),
            ({"m.r": Amount(1)}, "m.r"), ({"m.r.3": Amount(1)}, "m.r.3"), ({"m": Amount(1)}, "m"), ({"": Amount(1)}, ""),
            ({"z": Amount(1), "m.c": 1, "n": 5}, "m.c"), ({1: Amount(1)}, None), ({None: 1, ("m.c",): 2}, None),
            ({1: Amount(1), "z": 1, "m.c": Amount(1)}, "z"), ({True: Amount(1), "m.c": Amount(1)}, None), ({"m.c": Form(1)}, "m.c"),
        ):
            check_error(self, InvalidCells, {"key": key}, Run, made, "m.p", (), cells)
            check_error(self, InvalidCells, {"key": key}, Run.traced, made, "m.p", (), cells=cells)


if __name__ == "__main__":
    unittest.main()
