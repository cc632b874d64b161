"""[48] to [51] Engines."""

import unittest
from random import Random

from cases import random_programs
from enginemodel import ALL_PASSES, Driver, Model
from helpers import ODD_VALUES, check_error, check_same

from leastlog.amounts import Amount
from leastlog.engine import Engine
from leastlog.errors import (
    BadCarry, BadImport, InvalidArguments, InvalidCells, InvalidLanes, InvalidPasses, InvalidWeight, NotDurable, Over, Unchecked,
)
from leastlog.failures import ImportRing, InUse, LaneBusy, MissingModule, NoRun, NotOver, UnknownLane, UnknownProcedure, UnknownRun
from leastlog.inlining import PASSES
from leastlog.journals import Journal
from leastlog.ledgers import Ledger
from leastlog.modules import Module
from leastlog.moduletexts import read_module
from leastlog.programs import Program
from leastlog.runs import Run

BANK = "module bank\ncell vault\nexport procedure lend x:amount -> amount\n  add vault (x * -1/1)\n  return @vault\n"
TILL = """module till
import bank
cell cash
cells box 3
export procedure take x:amount
  put cash = x
  return
export procedure move n:count -> amount
  let y = @cash
  put box[n] = (y + @box[0])
  return y
export procedure pay x:amount n:count -> amount
  let half = (x / n)
  if (@cash less half)
    put box[0] = half
  call rest = bank.lend(half)
  return rest
procedure idle
  return
"""
PROGRAM = Program(read_module(BANK), read_module(TILL))
SEQUENCES = ((), ALL_PASSES, ("spread", "drop"), ("fold", "hoist", "inline"))


def till(old="", new=""):
    assert old in TILL
    return read_module(TILL.replace(old, new))


VERSIONS = [
    *[till(), till("(@cash less half)", "((@cash + 1/1) less half)"), till("(@cash less half)", "(@cash same half)")] * 2, till("return rest", "return (rest + 1/1)"), till("(x / n)", "((x / n) + @box[1])"),
    till("    put box[0] = half\n", ""), till("let y = @cash", "let y = (@cash * 2/1)"), till("cells box 3\n", "cells box 3\ncarry cash = (@cash + @box[1])\n"),
    read_module(BANK), read_module(BANK.replace("-1/1", "1/1")), read_module(BANK.replace("  return", "  let fee = @vault\n  return")),
    read_module("module shop\nimport till\ncell tin\nexport procedure buy x:amount\n  add tin x\n  call till.take(@tin)\n  return\n"),
]


def ended(engine, *calls):
    """Executes runs, tuples (lane, procedure, arguments); returns their numbers."""
    return [engine.execute(*call) for call in calls]


def take(amount, lane=0):
    return lane, "till.take", [Amount(amount)]


def check_as(case, engine, model):
    """Fails unless the engine answers as the model."""
    check_same(case, [len(engine), engine.released, engine.run_numbers(), engine.lanes], [len(model), model.released, model.numbers(), model.lanes])
    check_same(case, [engine.cells(), engine.durable()], [model.stores[-1], model.durable()])
    case.assertEqual(engine.program, model.programs[-1])
    for lane, live in enumerate(model.live):
        check_same(case, engine.is_busy(lane), live is not None)
        if live is not None:
            check_live(case, engine, lane, live)


def check_live(case, engine, lane, live):
    found = [engine.call_of(lane), engine.attempt_of(lane), engine.standing_of(lane), engine.fate_of(lane)]
    check_same(case, found, [live.call, live.attempt, live.standing, live.fate])
    run = engine.run_of(lane)
    check_same(case, [run.trace(), run.place, run.is_over, run.reads(), run.writes()],
               [live.run.trace(), live.run.place, live.run.is_over, live.run.reads(), live.run.writes()])


def check_ended(case, engine, model):
    """Fails unless the engine tells the same of its ended runs."""
    pairs = Ledger.replayed(model.lanes, model.footprints)
    case.assertEqual(engine.ledger(), pairs)
    for number in [*model.numbers(), len(model)]:
        check_same(case, engine.cells_at(number), model.stores[number])
        case.assertEqual(engine.program_at(number), model.programs[number])
    for number in model.numbers():
        check_same(case, [engine.record_of(number), engine.lane_of(number)], [model.records[number], model.footprints[number][0]])
        check_same(case, engine.pairs(number), pairs.pairs(number))
        check_same(case, engine.stop_count_of(number), stops(model, number))
    journal = engine.journal()
    cut = journal.cut()
    for lane, entries in enumerate(model.entries):
        check_same(case, journal.entries(lane), entries[cut[lane] - model.ahead[lane]:])


def stops(model, number):
    record = model.records[number]
    trace = [] if record[0] == "module" else Run.traced(model.programs[number], record[1], record[2], model.stores[number])
    return sum(event[0] == "stop" for event in trace)


class RunsTest(unittest.TestCase):
    def test_a_run(self):
        engine = Engine(program=PROGRAM, lanes=3, cells={"till.cash": Amount(1), "bank.vault": Amount(10)})
        check_same(self, [engine.lanes, engine.released, engine.passes, len(engine), engine.run_numbers(), engine.is_busy(2)], [3, 0, [], 0, [], False])
        check_same(self, engine.begin(lane=2, procedure="till.pay", arguments=[Amount(6), 2], weight=4), None)
        check_same(self, [engine.call_of(2), engine.attempt_of(2), engine.standing_of(2), engine.fate_of(2), engine.is_busy(lane=2)],
                   [("till.pay", (Amount(6), 2), 4), 1, 0, None, True])
        check_same(self, engine.run_of(2).trace(), [("stop", (("till.pay", "0", ()),), ({"x": Amount(6), "n": 2},))])
        check_same(self, [engine.step(lane=2), engine.run_of(lane=2).place, engine.cells()["bank.vault"]], [None, (("till.pay", "1", ()),), Amount(10)])
        check_same(self, [engine.finish(2), engine.finish(2), engine.run_of(2).outcome, len(engine)], [None, None, ("gave", (Amount(7),)), 0])
        check_same(self, [engine.cells()["bank.vault"], engine.end(2), engine.is_busy(2)], [Amount(10), 0, False])
        check_same(self, engine.cells(), {"bank.vault": Amount(7), "till.box.0": Amount(3), "till.box.1": Amount(0), "till.box.2": Amount(0), "till.cash": Amount(1)})
        check_same(self, engine.record_of(0), ("run", "till.pay", (Amount(6), 2), 4, (True,), "gave"))
        check_same(self, [engine.lane_of(0), engine.pairs(0), engine.journal().entries(2)], [2, [], [(2, 0, (), "run till.pay 4 6/1 2")]])
        check_same(self, engine.ledger().history(), [(2, ("bank", "bank.vault", "till", "till.cash"), ("bank.vault", "till.box.0"))])
        check_same(self, [engine.cells_at(0)["bank.vault"], engine.cells_at(1)["bank.vault"]], [Amount(10), Amount(7)])

    def test_execute(self):
        engine = Engine(PROGRAM)
        check_same(self, [engine.execute(*take(3)), engine.execute(lane=1, procedure="till.move", arguments=(2,), weight=9)], [0, 1])
        check_same(self, [engine.record_of(1), engine.pairs(1), engine.journal().entries(1)],
                   [("run", "till.move", (2,), 9, (), "gave"), [0], [(1, 0, ((0, 0),), "run till.move 9 2")]])
        check_same(self, engine.record_of(0)[3], 1)

    def test_failed_runs_end_without_writes(self):
        engine = Engine(PROGRAM)
        check_same(self, ended(engine, (0, "till.pay", [Amount(1), 0]), (0, "till.move", [3])), [0, 1])
        check_same(self, [engine.record_of(0), engine.record_of(1)], [("run", "till.pay", (Amount(1), 0), 1, (), "zero"), ("run", "till.move", (3,), 1, (), "row")])
        check_same(self, [engine.cells(), engine.ledger().history()[1]], [{cell: Amount(0) for cell in PROGRAM.cells()}, (0, ("till", "till.box.0", "till.cash"), ())])

    def test_a_run_reads_the_store_of_its_standing(self):
        engine = Engine(PROGRAM)
        engine.begin(0, "till.move", [1])
        ended(engine, take(5, 1))
        engine.step(0)
        check_same(self, [engine.run_of(0).variables(), engine.standing_of(0)], [({"n": 1, "y": Amount(0)},), 0])
        engine.finish(0)
        check_same(self, [engine.end(0), engine.attempt_of(0), engine.standing_of(0), engine.fate_of(0), len(engine)], [None, 2, 1, "version", 1])
        check_same(self, engine.run_of(0).place, (("till.move", "0", ()),))
        engine.finish(0)
        check_same(self, [engine.end(0), engine.cells()["till.box.1"]], [1, Amount(5)])

    def test_a_late_read_of_an_old_version_is_stale(self):
        engine = Engine(PROGRAM)
        engine.begin(0, "till.move", [0])
        engine.step(0)
        ended(engine, (1, "till.move", [0]))
        engine.finish(0)
        check_same(self, [engine.end(0), engine.fate_of(0)], [None, "version"])

    def test_what_is_not_read_is_not_stale(self):
        engine = Engine(PROGRAM)
        engine.begin(0, *take(4)[1:])
        ended(engine, take(5, 1))
        engine.finish(0)
        check_same(self, [engine.end(0), engine.cells()["till.cash"], engine.pairs(1)], [1, Amount(4), [0]])

    def test_drop(self):
        engine = Engine(PROGRAM)
        engine.begin(0, *take(4)[1:])
        engine.finish(0)
        check_same(self, [engine.drop(lane=0), engine.is_busy(0), len(engine), engine.cells()["till.cash"]], [None, False, 0, Amount(0)])
        engine.begin(0, *take(5)[1:])
        check_same(self, [engine.attempt_of(0), engine.fate_of(0)], [1, None])

    def test_run_of_is_independent(self):
        engine = Engine(PROGRAM)
        engine.begin(0, "till.move", [0])
        run = engine.run_of(0)
        run.finish()
        check_same(self, [engine.run_of(0).is_over, engine.run_of(0).stop_count], [False, 1])
        self.assertIs(type(run), Run)


class ReplaceTest(unittest.TestCase):
    def test_a_replacement(self):
        engine = Engine(PROGRAM, lanes=3, cells={"till.cash": Amount(4), "till.box.1": Amount(7)})
        module = read_module("module till\ncell cash\ncell tin\ncarry tin = (@cash + @box[1])\nexport procedure look -> amount\n  return @tin\n")
        check_same(self, [engine.replace(lane=1, module=module), engine.is_busy(1), len(engine)], [0, False, 1])
        check_same(self, engine.cells(), {"bank.vault": Amount(0), "till.cash": Amount(4), "till.tin": Amount(11)})
        self.assertEqual(engine.program, PROGRAM.with_module(module))
        check_same(self, engine.ledger().history(), [(1, ("bank", "till", "till.box.1", "till.cash"),
                                                      ("till", "till.box.0", "till.box.1", "till.box.2", "till.cash", "till.tin"))])
        check_same(self, [engine.record_of(0), engine.lane_of(0)], [("module", module), 1])
        check_same(self, engine.journal().entries(1), [(1, 0, (), str(module)[:-1].replace("\n", "|"))])
        check_same(self, [engine.cells_at(0)["till.box.1"], engine.program_at(0) == PROGRAM, engine.program_at(1) == engine.program], [Amount(7), True, True])
        check_same(self, engine.execute(0, "till.look", []), 1)
        check_same(self, engine.pairs(1), [0])

    def test_code_cells_of_importers_and_imports(self):
        engine = Engine(PROGRAM)
        engine.replace(0, read_module(BANK))
        engine.replace(0, read_module("module shop\nimport till\ncell tin\n"))
        engine.replace(0, read_module("module shop\nimport bank\ncell tin\n"))
        check_same(self, engine.ledger().history(), [
            (0, ("bank", "bank.vault", "till"), ("bank", "bank.vault")), (0, ("shop", "till"), ("shop", "shop.tin")),
            (0, ("bank", "shop", "shop.tin", "till"), ("shop", "shop.tin"))])
        check_same(self, engine.program.modules(), ["bank", "shop", "till"])

    def test_a_run_that_it_does_not_concern(self):
        engine = Engine(PROGRAM)
        engine.begin(0, "till.pay", [Amount(2), 1])
        engine.replace(1, read_module(BANK.replace("-1/1", "1/1")))
        check_same(self, [engine.fate_of(0), engine.standing_of(0), engine.attempt_of(0)], [None, 0, 1])
        engine.finish(0)
        check_same(self, [engine.run_of(0).outcome, engine.end(0), engine.fate_of(0)], [("gave", (Amount(-2),)), None, "version"])
        engine.finish(0)
        check_same(self, [engine.run_of(0).outcome, engine.end(0)], [("gave", (Amount(2),)), 1])

    def test_carried_on(self):
        engine = Engine(PROGRAM)
        engine.begin(0, "till.pay", [Amount(6), 2], weight=3)
        for _ in range(3):
            engine.step(0)
        place = engine.run_of(0).place
        engine.replace(1, till("return rest", "return (rest + 1/1)"))
        check_same(self, [engine.fate_of(0), engine.standing_of(0), engine.attempt_of(0), engine.run_of(0).place], ["carried", 1, 1, place])
        engine.finish(0)
        check_same(self, [engine.run_of(0).outcome, engine.end(0), engine.record_of(1)[3]], [("gave", (Amount(-2),)), 1, 3])

    def test_begun_again_for_each_reason(self):
        for steps, between, module, fate in (
            (1, take(1, 1), till(), "version"),
            (9, None, till(), "stop"),
            (2, None, till("    put box[0] = half\n", ""), "stop"),
            (2, None, till("(@cash less half)", "(0/1 less half)"), "test"),
            (2, None, till("(@cash less half)", "((@cash + 1/1) less half)"), "test"),
            (1, None, till("(x / n)", "((x / n) + @box[1])"), "told"),
        ):
            engine = Engine(PROGRAM, cells={"till.cash": Amount(1)})
            engine.begin(0, "till.pay", [Amount(6), 2])
            for _ in range(steps):
                if not engine.run_of(0).is_over:
                    engine.step(0)
            if between:
                engine.begin(1, *between[1:])
                engine.finish(1)
                engine.step(0)
                engine.end(1)
            engine.replace(1, module)
            expected = [fate, 2, len(engine), (("till.pay", "0", ()),)]
            check_same(self, [engine.fate_of(0), engine.attempt_of(0), engine.standing_of(0), engine.run_of(0).place], expected)
            self.assertEqual(engine.run_of(0).trace(), Run(engine.program, "till.pay", [Amount(6), 2], engine.cells()).trace())

    def test_in_use(self):
        engine = Engine(PROGRAM, lanes=3)
        engine.begin(1, "till.pay", [Amount(6), 2])
        engine.begin(2, "till.move", [1])
        before = engine.clone()
        for module, lane in ((till("export procedure pay", "procedure pay"), 1),
                             (till("x:amount n:count -> amount\n  let half = (x / n)", "n:count x:amount -> amount\n  let half = (x / n)"), 1),
                             (till("export procedure move", "procedure move"), 2), (read_module("module till\nimport bank\n"), 1)):
            check_error(self, InUse, {"lane_number": lane}, engine.replace, 0, module)
        self.assertEqual(engine, before)
        engine.drop(1)
        check_same(self, engine.replace(0, till("export procedure pay", "procedure pay")), 0)
        engine.finish(2)
        check_error(self, InUse, {"lane_number": 2}, engine.replace, 0, Module("till", ["bank"]))

    def test_results_may_change_their_sorts(self):
        engine = Engine(PROGRAM)
        engine.begin(0, "till.move", [1])
        engine.replace(1, till("export procedure move n:count -> amount\n  let y = @cash\n  put box[n] = (y + @box[0])\n  return y",
                               "export procedure move n:count -> count\n  let y = @cash\n  put box[n] = (y + @box[0])\n  return n"))
        engine.finish(0)
        check_same(self, [engine.fate_of(0), engine.run_of(0).outcome], ["carried", ("gave", (1,))])


class ReleaseTest(unittest.TestCase):
    def test_release(self):
        engine = Engine(PROGRAM, lanes=3)
        check_same(self, engine.release(), 0)
        ended(engine, take(3), take(4, 1), (0, "till.move", [1]))
        engine.begin(2, "till.move", [2])
        engine.begin(0, "till.move", [0])
        engine.step(0)
        check_same(self, engine.sync(0), None)
        check_error(self, NotDurable, {"number": 1}, engine.release)
        check_same(self, [engine.durable(), engine.released, engine.run_numbers()], [[0], 0, [0, 1, 2]])
        engine.sync(1)
        check_same(self, [engine.durable(), engine.release(), engine.released, engine.run_numbers(), len(engine), engine.durable()], [[0, 1, 2], 3, 3, [], 3, []])
        check_same(self, [engine.fate_of(2), engine.attempt_of(2), engine.standing_of(2)], [None, 1, 3])
        check_same(self, [engine.run_of(0).stop_count, engine.fate_of(0), engine.standing_of(0)], [2, None, 3])
        check_same(self, [engine.journal().cut(), engine.cells_at(3) == engine.cells()], [[2, 1, 0], True])
        check_same(self, [ended(engine, take(9, 1)), engine.pairs(3), engine.journal().entries(1)], [[3], [2], [(1, 1, ((0, 1),), "run till.take 1 9/1")]])

    def test_runs_under_way_are_begun_again(self):
        engine = Engine(PROGRAM, lanes=3)
        engine.begin(2, "till.pay", [Amount(1), 1])
        engine.step(2)
        ended(engine, take(3))
        engine.begin(1, "till.pay", [Amount(1), 1])
        engine.step(1)
        engine.sync(0)
        engine.release()
        check_same(self, [engine.fate_of(2), engine.attempt_of(2), engine.standing_of(2), engine.run_of(2).stop_count], ["release", 2, 1, 1])
        check_same(self, [engine.fate_of(1), engine.attempt_of(1), engine.standing_of(1), engine.run_of(1).stop_count], [None, 1, 1, 2])

    def test_released_runs_are_unknown(self):
        engine = Engine(PROGRAM)
        ended(engine, take(3), take(4))
        engine.sync(0)
        engine.release()
        ended(engine, take(5))
        queries = (engine.record_of, engine.lane_of, engine.pairs, engine.stop_count_of)
        for value in (*ODD_VALUES, -1, 0, 1, 3, 10 ** 20):
            for query in queries:
                check_error(self, UnknownRun, {"value": value}, query, value)
        for value in (*ODD_VALUES, -1, 0, 1, 4):
            for query in (engine.cells_at, engine.program_at):
                check_error(self, UnknownRun, {"value": value}, query, value)
        check_same(self, [engine.pairs(number=2), engine.cells_at(number=2)["till.cash"], engine.cells_at(3)["till.cash"]], [[], Amount(4), Amount(5)])


class ErrorsTest(unittest.TestCase):
    def engine(self):
        engine = Engine(PROGRAM, lanes=3)
        ended(engine, take(3))
        engine.begin(1, "till.move", [1])
        return engine

    def test_constructor(self):
        for value in (*ODD_VALUES, 0, 6, -1, 10 ** 20):
            check_error(self, InvalidLanes, {"value": value}, Engine, PROGRAM, lanes=value, cells=5, passes=5)
        for value in (*[value for value in ODD_VALUES if not isinstance(value, dict) and value is not None], 5):
            check_error(self, InvalidCells, {"key": None}, Engine, PROGRAM, cells=value, passes=5)
            check_error(self, InvalidCells, {"key": None}, Engine.restored, PROGRAM, Journal(2), cells=value, passes=5)
        check_error(self, InvalidCells, {"key": "till.cash"}, Engine, PROGRAM, cells={"till.cash": 1, "till.vault": Amount(1)}, passes=5)
        engine = Engine(PROGRAM)
        for value in (*[value for value in ODD_VALUES if not isinstance(value, (list, tuple))], 5, "spread"):
            check_error(self, InvalidPasses, {"position": None}, Engine, PROGRAM, passes=value)
            check_error(self, InvalidPasses, {"position": None}, setattr, engine, "passes", value)
            check_error(self, InvalidPasses, {"position": None}, Engine.restored, PROGRAM, Journal(1), passes=value)
        for value in (*ODD_VALUES, 0, "share_equal", "Spread"):
            check_error(self, InvalidPasses, {"position": 1}, Engine, PROGRAM, passes=["inline", value, None])
            check_error(self, InvalidPasses, {"position": 0}, setattr, engine, "passes", (value,))
        check_same(self, [engine.passes, Engine.MOST_LANES, [Engine(PROGRAM, lanes=lanes).lanes for lanes in range(1, 6)]], [[], 5, [1, 2, 3, 4, 5]])

    def test_lanes(self):
        engine = self.engine()
        first = (engine.step, engine.finish, engine.end, engine.drop, engine.run_of, engine.call_of, engine.attempt_of, engine.standing_of, engine.fate_of,
                 engine.place_of, engine.live_stop_count)
        for value in (*ODD_VALUES, -1, 3, 10 ** 20):
            for call in (*first, engine.is_busy, engine.sync):
                check_error(self, UnknownLane, {"value": value}, call, value)
            for call in (engine.begin, engine.execute):
                check_error(self, UnknownLane, {"value": value}, call, value, None, None, weight=None)
            check_error(self, UnknownLane, {"value": value}, engine.replace, value, till("return rest", "return x"))
        for lane in (0, 2):
            for call in first:
                check_error(self, NoRun, {"lane_number": lane}, call, lane)

    def test_begin(self):
        engine = self.engine()
        before = engine.clone()
        for call in (engine.begin, engine.execute):
            check_error(self, LaneBusy, {"lane_number": 1}, call, 1, None, None, weight=None)
            for value in (*ODD_VALUES, "till", "till.idle", "till.none", "bank.take"):
                check_error(self, UnknownProcedure, {"name": value}, call, 0, value, None, weight=None)
            for value in (*[value for value in ODD_VALUES if not isinstance(value, (list, tuple))], [], [Amount(1), 2]):
                check_error(self, InvalidArguments, {"position": None}, call, 0, "till.take", value, weight=None)
            for value in (*ODD_VALUES, 1):
                check_error(self, InvalidArguments, {"position": 0}, call, 0, "till.take", [value], weight=None)
            check_error(self, InvalidArguments, {"position": 1}, call, 0, "till.pay", [Amount(1), True], weight=None)
            for value in (*ODD_VALUES, 0, 10, -1):
                check_error(self, InvalidWeight, {"value": value}, call, 0, "till.take", [Amount(1)], weight=value)
        self.assertEqual(engine, before)

    def test_step_and_end(self):
        engine = self.engine()
        before = engine.clone()
        check_error(self, NotOver, {"lane_number": 1}, engine.end, 1)
        self.assertEqual(engine, before)
        engine.finish(1)
        check_error(self, Over, {}, engine.step, 1)
        check_same(self, [engine.finish(1), engine.end(1)], [None, 1])

    def test_replace(self):
        engine = self.engine()
        before = engine.clone()
        check_error(self, LaneBusy, {"lane_number": 1}, engine.replace, 1, read_module("module till\nimport shop\n"))
        for text, error, attributes in (
            ("module till\nimport shop\n", MissingModule, {"name": "shop", "importer": "till"}),
            ("module bank\nimport till\n", ImportRing, {"names": ["bank", "till"]}),
            ("module till\nprocedure p\n", Unchecked, {"module": "till"}),
            ("module bank\n", BadImport, {"importer": "till"}),
            ("module till\ncell cash\ncarry tin = 1/1\n", BadCarry, {"position": 0}),
            ("module till\ncell cash\n", InUse, {"lane_number": 1}),
        ):
            check_error(self, error, attributes, engine.replace, 0, read_module(text))
        self.assertEqual(engine, before)


class PassesTest(unittest.TestCase):
    def test_passes(self):
        engine = Engine(PROGRAM, passes=("inline", "drop"))
        check_same(self, engine.passes, ["inline", "drop"])
        engine.passes.append("x")
        check_same(self, engine.passes, ["inline", "drop"])
        given = ["hoist"]
        other = Engine(PROGRAM, passes=given)
        engine.passes = given
        given.append("x")
        check_same(self, [engine.passes, engine.clone().passes, other.passes], [["hoist"], ["hoist"], ["hoist"]])
        engine.passes = ()
        check_same(self, engine.passes, [])
        check_same(self, Engine(PROGRAM, passes=[*PASSES, "inline"]).passes, [*PASSES, "inline"])

    def test_passes_show_in_no_result(self):
        """Engines with different passes, and with passes that change, do the same."""
        random = Random(480)
        for made in random_programs(480, 6):
            engines = [Engine(made, passes=names) for names in SEQUENCES]
            model = Model(made, 2)
            for engine in engines[1:]:
                driver = Driver(Random(7), engine, model := Model(made, 2))
                for _ in driver.go(40):
                    if random.random() < 0.1:
                        engine.passes = random.choice(SEQUENCES)
                check_as(self, engine, model)
                check_ended(self, engine, model)


class CopiesTest(unittest.TestCase):
    def test_clone(self):
        engine = Engine(PROGRAM, lanes=3, passes=["spread"])
        ended(engine, take(3))
        engine.begin(1, "till.move", [1])
        other = engine.clone()
        self.assertEqual(other, engine)
        other.step(1)
        self.assertNotEqual(other, engine)
        check_same(self, [engine.run_of(1).stop_count, other.run_of(1).stop_count], [1, 2])
        engine.step(1)
        self.assertEqual(other, engine)
        engine.begin(0, *take(4)[1:])
        engine.sync(0)
        other.drop(1)
        check_same(self, [other.is_busy(0), other.durable(), engine.is_busy(1), engine.durable()], [False, [], True, [0]])
        ended(other, take(7, 2))
        check_same(self, [len(engine), engine.cells()["till.cash"], engine.journal().entries(2)], [1, Amount(3), []])
        ended(other, (0, "till.move", [1]))
        engine.replace(2, read_module(BANK.replace("-1/1", "1/1")))
        check_same(self, [engine.run_numbers(), engine.record_of(1)[0], engine.lane_of(1), engine.stop_count_of(1), engine.cells_at(1)["till.cash"]], [[0, 1], "module", 2, 0, Amount(3)])
        check_same(self, [other.run_numbers(), other.record_of(1)[1], other.lane_of(2), other.stop_count_of(2), other.cells_at(2)["till.cash"]],
                   [[0, 1, 2], "till.take", 0, 3, Amount(7)])
        self.assertEqual([other.program_at(2), other.program, engine.program_at(1)], [PROGRAM] * 3)
        self.assertNotEqual(engine.program, PROGRAM)

    def test_equality(self):
        def make(*calls, **options):
            engine = Engine(PROGRAM, **options)
            ended(engine, *calls)
            return engine
        self.assertEqual(make(take(3)), make(take(3, 1), passes=["drop"]))
        self.assertNotEqual(make(), make(lanes=3))
        self.assertNotEqual(make(take(3)), make(take(4)))
        self.assertNotEqual(make(take(3)), make(take(4), take(3)))
        self.assertNotEqual(make(), make(cells={"till.cash": Amount(1)}))
        self.assertNotEqual(make(), Engine(Program(read_module(BANK))))
        one, other = make(take(3)), make(take(3))
        one.sync(0)
        self.assertEqual(one, other)
        one.release()
        self.assertNotEqual(one, other)
        for engine in (one, other):
            engine.sync(0)
            engine.release()
        self.assertEqual(one, other)
        for change in (lambda: one.begin(1, "till.move", [1]), lambda: one.step(1), lambda: one.finish(1)):
            change()
            self.assertNotEqual(one, other)
        other.begin(1, "till.move", [1])
        other.finish(1)
        self.assertEqual(one, other)
        for weight, arguments in ((2, [1]), (1, [2])):
            other.drop(1)
            other.begin(1, "till.move", arguments, weight=weight)
            other.finish(1)
            self.assertNotEqual(one, other)
        for value in (*ODD_VALUES, PROGRAM):
            self.assertNotEqual(one, value)

    def test_results_are_new(self):
        engine = Engine(PROGRAM)
        ended(engine, take(3), take(4, 1))
        for query in (engine.cells, lambda: engine.cells_at(0)):
            query()["x"] = None
            self.assertNotIn("x", query())
        for query in (engine.run_numbers, engine.durable, lambda: engine.pairs(1)):
            query().append("x")
            self.assertNotIn("x", query())
        engine.journal().sync()
        engine.ledger().begin(0)
        check_same(self, [engine.durable(), engine.execute(*take(5))], [[], 2])
        given = [Amount(3)]
        engine.begin(0, "till.take", given)
        given.clear()
        check_same(self, engine.call_of(0)[1], (Amount(3),))


class MixturesTest(unittest.TestCase):
    """Random mixtures, compared with a model."""

    def test_mixtures(self):
        random = Random(49)
        counts = {}
        for at, made in enumerate([*random_programs(49, 24), *[PROGRAM] * 30]):
            lanes = random.randint(2, 5)
            cells = {cell: Amount(random.randint(-2, 3)) for cell in made.cells()}
            engine, model = Engine(made, lanes=lanes, cells=cells, passes=SEQUENCES[at // 3 % 4]), Model(made, lanes, cells)
            driver = Driver(random, engine, model, VERSIONS if made == PROGRAM else ())
            for _ in range(3):
                words = ("step", "step", "end", "replace", "replace", "sync") if made == PROGRAM else ("step", "step", "finish", "end", "drop", "replace", "sync")
                for _ in driver.go(22, words):
                    check_as(self, engine, model)
                check_ended(self, engine, model)
                self.check_release(engine, model)
                self.check_restored(random, engine, model)
            for word, count in driver.count.items():
                counts[word] = counts.get(word, 0) + count
        for word in ("gave", "again", "carried", "version", "stop", None):
            self.assertGreater(counts.get(word, 0), 5, (word, counts))
        self.assertGreater(counts.get("test", 0) + counts.get("told", 0), 0, counts)

    def check_release(self, engine, model):
        missing = [number for number in model.numbers() if number not in model.durable()]
        if missing:
            check_error(self, NotDurable, {"number": missing[0]}, engine.release)
            return
        check_same(self, engine.release(), model.release())
        check_as(self, engine, model)

    def check_restored(self, random, engine, model):
        """The engine from a journal that stopped at drawn lengths, and once more from that of the restored one."""
        program, cells = model.programs[model.released], model.stores[model.released]
        journal = engine.journal()
        for _ in range(2):
            disks = [journal.disk(lane) for lane in range(model.lanes)]
            found = journal.stopped([random.randint(disk.sure, len(disk.content)) for disk in disks])
            restored = Engine.restored(program=program, journal=found, cells=cells, passes=random.choice(SEQUENCES))
            self.check_counting(restored, found, program, cells)
            self.assertTrue(all(one <= other for one, other in zip(journal.durable(), found.counting())))
            other = Model(program, model.lanes, cells)
            other.ahead = found.cut()
            self.replay(restored, other, found)
            driver = Driver(random, restored, other, VERSIONS if "till" in program.modules() else ())
            for _ in driver.go(6):
                pass
            check_as(self, restored, other)
            check_ended(self, restored, other)
            journal = restored.journal()

    def check_counting(self, restored, found, program, cells):
        expected = Engine(program, lanes=restored.lanes, cells=cells)
        order = found.order()
        check_same(self, [len(restored), restored.run_numbers(), restored.released], [len(order), list(range(len(order))), 0])
        self.assertEqual(restored.journal(), found.recovered())
        check_same(self, [restored.lane_of(number) for number in range(len(order))], [lane for lane, _ in order])
        check_same(self, [restored.durable(), [restored.is_busy(lane) for lane in range(restored.lanes)]],
                   [list(range(len(order))), [False] * restored.lanes])
        for number in range(len(order)):
            record = restored.record_of(number)
            if record[0] == "module":
                expected.replace(order[number][0], record[1])
            else:
                expected.execute(order[number][0], *record[1:3], weight=record[3])
        self.assertEqual(restored, expected)

    def replay(self, restored, model, found):
        """Brings the model to where the restored engine is."""
        for lane, _ in found.order():
            number = len(model)
            record = restored.record_of(number)
            if record[0] == "module":
                model.replace(lane, record[1])
            else:
                model.begin(lane, *record[1:4])
                model.live[lane].run.finish()
                assert model.end(lane) == number
        cut = found.cut()
        model.entries = [[*found.entries(lane)][:found.counting()[lane] - cut[lane]] for lane in range(model.lanes)]
        model.sure = found.counting()


class WholeTest(unittest.TestCase):
    """[4] What is found after a crash is what some of the runs did, in an order that keeps what they read."""

    def test_restored_runs_are_those_that_ended(self):
        random = Random(4)
        for made in random_programs(4, 12):
            engine, model = Engine(made, lanes=4), Model(made, 4)
            for _ in Driver(random, engine, model).go(60):
                pass
            journal = engine.journal()
            whole = Engine.restored(made, journal)
            check_same(self, [len(whole), whole.cells()], [len(engine), engine.cells()])
            spots = [engine.ledger().spot_of(number) for number in engine.run_numbers()]
            for lengths in self.lengths(random, journal):
                found = journal.stopped(lengths)
                restored = Engine.restored(made, found)
                for number, spot in enumerate(found.order()):
                    was = spots.index(spot)
                    check_same(self, restored.record_of(number), engine.record_of(was))
                durable = {spots[number] for number in engine.durable()}
                self.assertLessEqual(durable, set(found.order()))

    def lengths(self, random, journal):
        disks = [journal.disk(lane) for lane in range(4)]
        for _ in range(6):
            yield [random.randint(disk.sure, len(disk.content)) for disk in disks]

    def test_going_on_behind_a_cut(self):
        engine = Engine(PROGRAM)
        ended(engine, take(3), take(4, 1))
        for lane in range(2):
            engine.sync(lane)
        engine.release()
        program, cells = engine.program, engine.cells()
        ended(engine, take(5, 1), (0, "till.move", [1]))
        engine.sync(1)
        journal = engine.journal()
        found = journal.stopped([0, len(journal.disk(1).content)])
        restored = Engine.restored(program, found, cells=cells)
        check_same(self, [len(restored), restored.record_of(0)[2], restored.pairs(0), restored.journal().cut(), restored.released],
                   [1, (Amount(5),), [], [1, 1], 0])
        check_same(self, [restored.execute(0, "till.move", [2]), restored.pairs(1), restored.journal().entries(0)],
                   [1, [0], [(0, 1, ((1, 1),), "run till.move 1 2")]])
        restored.sync(0)
        check_same(self, [restored.durable(), restored.release(), restored.journal().cut(), len(restored), restored.released], [[0, 1], 2, [2, 2], 2, 2])


if __name__ == "__main__":
    unittest.main()
