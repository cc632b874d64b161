"""[60] Consoles."""

import unittest

from helpers import ODD_VALUES, check_error, check_same
from test_engine import BANK, TILL

from leastlog.amounts import Amount
from leastlog.archives import Archive
from leastlog.console import Console
from leastlog.debugger import Debugger
from leastlog.engine import Engine
from leastlog.errors import BadCarry, BadImport, InvalidArguments, InvalidCommand, InvalidLanes, InvalidLength, LeastlogError, NotDurable, Over, Unchecked
from leastlog.failures import (
    AlreadyStarted, CommandFailed, DuplicateModule, ImportRing, InUse, LaneBusy, MissingModule, NoRun, NoSpot, NotStarted, UnknownKey, UnknownLane,
    UnknownProcedure, UnknownStop,
)
from leastlog.moduletexts import read_module
from leastlog.programs import Program


def line(text):
    return text[:-1].replace("\n", "|")


def started(lanes=3):
    console = Console()
    console.run([f"load {line(TILL)}", f"load {line(BANK)}", f"start {lanes}"])
    return console


class CommandsTest(unittest.TestCase):
    def check(self, console, *rows):
        for command, answer in rows:
            check_same(self, console.execute(command), answer)

    def test_the_example(self):
        console = Console()
        answers = console.run(["load module till|cell cash|export procedure take x:amount|  put cash = x|  return", "start 2", "begin 0 1 till.take 5/1", "step 0", "end 0"])
        check_same(self, [answers, console.execute("cells"), console.execute(command="lost till.take 1/1")],
                   [["till", "ok", "till.take 0 -", "till.take 1 -", "0"], "till.cash=5/1", "1"])

    def test_load_and_start(self):
        console = Console()
        check_same(self, console.debugger, None)
        self.check(console, (f"load {line(BANK)}", "bank"), (f"load {line(TILL)}", "till"))
        check_error(self, DuplicateModule, {"name": "till"}, console.execute, "load module till")
        check_same(self, console.debugger, None)
        self.check(console, ("start 4", "ok"))
        self.assertIsInstance(console.debugger, Debugger)
        self.assertEqual(console.debugger.engine, Engine(Program(read_module(BANK), read_module(TILL)), lanes=4))
        self.assertEqual(console.debugger.archive, Archive(Program(read_module(BANK), read_module(TILL))))
        empty = Console()
        self.check(empty, ("start 1", "ok"), ("cells", "-"), ("kept", "-"))
        check_same(self, empty.debugger.engine.lanes, 1)

    def test_start_fails(self):
        for texts, error, attributes in ((["module till|import bank"], MissingModule, {"name": "bank", "importer": "till"}),
                                         (["module till|procedure p"], Unchecked, {"module": "till"}),
                                         (["module till|import bank", "module bank|import till"], ImportRing, {"names": ["bank", "till"]})):
            console = Console()
            for text in texts:
                console.execute(f"load {text}")
            check_error(self, error, attributes, console.execute, "start 2")
            check_same(self, console.debugger, None)
            check_error(self, NotStarted, {}, console.execute, "cells")
        console = Console()
        for lanes in (0, 6, 10 ** 20):
            check_error(self, InvalidLanes, {"value": lanes}, console.execute, f"start {lanes}")
        self.check(console, ("load module bank", "bank"), ("start 5", "ok"))

    def test_runs(self):
        console = started()
        self.check(console, ("begin 0 4 till.pay 6/1 2", "till.pay 0 -"), ("step 0", "till.pay 1 -"), ("step 0", "till.pay 1.a.0 -"), ("step 0", "till.pay 2 -"),
                   ("step 0", "till.pay 2 - / bank.lend 0 -"), ("step 0", "till.pay 2 - / bank.lend 1 -"), ("step 0", "till.pay 3 -"), ("step 0", "over"))
        check_error(self, Over, {}, console.execute, "step 0")
        self.check(console, ("cells", "bank.vault=0/1 till.box.0=0/1 till.box.1=0/1 till.box.2=0/1 till.cash=0/1"), ("end 0", "0"),
                   ("cells", "bank.vault=-3/1 till.box.0=3/1 till.box.1=0/1 till.box.2=0/1 till.cash=0/1"))
        check_same(self, console.debugger.engine.record_of(0), ("run", "till.pay", (Amount(6), 2), 4, (True,), "gave"))
        self.check(console, ("begin 1 1 till.move 1", "till.move 0 -"), ("begin 2 1 till.take -1/2", "till.take 0 -"), ("end 2", "1"), ("end 1", "again"), ("end 1", "2"))

    def test_places(self):
        text = ("module aa|export procedure p n:count|  repeat n as k|    while (k below 2) up to 9|      let z = yes|    if yes|      let y = k|  return")
        console = Console()
        console.run([f"load {text}", "start 1"])
        self.check(console, ("begin 0 1 aa.p 2", "aa.p 0 -"), ("step 0", "aa.p 0.a.0 0"), ("step 0", "aa.p 0.a.0.a.0 0,0"), ("step 0", "aa.p 0.a.0.a.0 0,1"))

    def test_replace(self):
        console = started()
        self.check(console, ("begin 1 1 till.take 5/1", "till.take 0 -"), ("step 1", "till.take 1 -"))
        text = line(TILL.replace("put cash = x", "put cash = (x * 2/1)"))
        self.check(console, (f"replace 0 {text}", "0"), ("end 1", "1"))
        self.assertIn("till.cash=10/1", console.execute("cells"))
        self.check(console, ("replace 2 module shop|cell tin|carry tin = 3/1", "2"))
        self.assertIn("shop.tin=3/1", console.execute("cells").split(" "))

    def test_let_go(self):
        console = started()
        self.check(console, ("letgo", "0"), ("kept", "-"))
        console.run(["begin 0 3 till.take 5/1", "end 0", "begin 0 2 till.take 7/2", "end 0", "begin 1 1 till.move 0", "end 1"])
        check_error(self, NotDurable, {"number": 0}, console.execute, "letgo")
        self.check(console, ("sync 0", "ok"))
        check_error(self, NotDurable, {"number": 2}, console.execute, "letgo")
        self.check(console, ("sync 1", "ok"), ("letgo", "3"), ("kept", "5/1"), ("lost till.take 1/1", "0"), ("lost till.pay 5/1 2", "0"))
        console.run(["begin 0 1 till.take 1/1", "end 0", "begin 0 1 till.take 2/1", "end 0", "sync 0"])
        self.check(console, ("lost till.take 9/1", "1"), ("letgo", "2"), ("kept", "5/1 1/1"), ("lost till.pay 5/1 2", "1"))

    def test_cursor(self):
        console = started()
        check_error(self, NoSpot, {}, console.execute, "show")
        check_error(self, NoSpot, {}, console.execute, "forward")
        check_error(self, NoSpot, {}, console.execute, "back")
        console.run(["begin 0 1 till.take 5/1", "end 0", "sync 0", "letgo", "begin 1 1 till.move 0", "end 1", "begin 2 1 till.pay 6/1 1", "step 2", "step 2", "step 2", "step 2"])
        self.check(console, ("forward", "a0 0 till.take 0 -"), ("show", "x=5/1"), ("forward", "a0 1 till.take 1 -"), ("forward", "e1 0 till.move 0 -"), ("show", "n=0"),
                   ("back", "a0 1 till.take 1 -"), ("go l2 4", "l2 4 till.pay 2 - / bank.lend 0 -"), ("show", "x=6/1"), ("go l2 1", "l2 1 till.pay 1 -"),
                   ("show", "x=6/1 n=1 half=6/1"), ("go e1 2", "e1 2 till.move 2 -"), ("show", "n=0 y=5/1"))
        check_error(self, UnknownStop, {"stop_number": 5}, console.execute, "go l2 5")
        for key, value in (("a1", ("archive", 1)), ("e0", ("ended", 0)), ("l0", ("live", 0)), ("l9", ("live", 9))):
            check_error(self, UnknownKey, {"value": value}, console.execute, f"go {key} 0")
        self.check(console, ("show", "n=0 y=5/1"), ("go l2 4", "l2 4 till.pay 2 - / bank.lend 0 -"))
        check_error(self, NoSpot, {}, console.execute, "forward")
        check_same(self, console.debugger.cursor(), (("live", 2), 4))

    def test_nothing_to_show(self):
        console = Console()
        console.run(["load module aa|export procedure p good:truth -> truth|  return good|export procedure q|  return", "start 1", "begin 0 1 aa.q", "end 0", "begin 0 1 aa.p yes"])
        self.check(console, ("forward", "e0 0 aa.q 0 -"), ("show", "-"), ("forward", "l0 0 aa.p 0 -"), ("show", "good=yes"))

    def test_crash(self):
        console = started()
        console.run(["begin 0 1 till.take 5/1", "end 0", "sync 0", "letgo", "begin 1 1 till.take 7/1", "end 1", "begin 0 1 till.move 1", "end 0", "begin 2 1 till.take 9/1"])
        engine = console.debugger.engine
        length = len(engine.journal().disk(0).content)
        console.execute("forward")
        check_error(self, InvalidLength, {"value": [0, 0]}, console.execute, "crash 0 0")
        check_error(self, InvalidLength, {"value": length + 1}, console.execute, f"crash {length + 1} 0 0")
        check_same(self, [console.debugger.cursor(), console.debugger.engine.is_busy(2)], [(("archive", 0), 0), True])
        self.check(console, (f"crash {length} 0 0", "0"), ("cells", "bank.vault=0/1 till.box.0=0/1 till.box.1=0/1 till.box.2=0/1 till.cash=5/1"), ("kept", "-"))
        check_same(self, [console.debugger.cursor(), console.debugger.run_keys(), console.debugger.engine.journal().cut()], [None, [("archive", 0)], [1, 0, 0]])
        check_error(self, NoSpot, {}, console.execute, "show")
        console.run(["begin 1 1 till.take 7/1", "end 1", "begin 0 1 till.move 1", "end 0"])
        lengths = [len(console.debugger.engine.journal().disk(lane).content) for lane in range(3)]
        self.check(console, (f"crash {lengths[0]} {lengths[1]} 0", "2"), ("back", "e1 2 till.move 2 -"), ("show", "n=1 y=7/1"), ("sync 1", "ok"), ("letgo", "2"),
                   ("kept", "5/1"))

    def test_crash_at_every_length(self):
        console = started(2)
        console.run(["begin 0 1 till.take 5/1", "end 0", "begin 1 1 till.move 1", "end 1", "sync 0", "begin 0 1 till.take 3/1", "end 0"])
        disks = [console.debugger.engine.journal().disk(lane) for lane in range(2)]
        for length in range(disks[0].sure, len(disks[0].content) + 1):
            for other in (0, 5, len(disks[1].content)):
                copy = started(2)
                copy.run(["begin 0 1 till.take 5/1", "end 0", "begin 1 1 till.move 1", "end 1", "sync 0", "begin 0 1 till.take 3/1", "end 0"])
                counts = [1 + (length == len(disks[0].content)) * (other == len(disks[1].content)), other == len(disks[1].content)]
                check_same(self, copy.execute(f"crash {length} {other}"), str(sum(counts)))


class ErrorsTest(unittest.TestCase):
    def test_strings_that_are_nearly_commands(self):
        console, other = started(), Console()
        wrong = ["", " ", "cells ", " cells", "Cells", "cells 1", "kept -", "letgo 0", "forward 1", "back ", "show x", "stepp 0", "step", "step ", "step  0", "step 00", "step 01",
                 "step -1", "step +1", "step x", "step 0 0", "step 0\n", "\nstep 0", "end", "end 0/1", "sync", "sync 0 1", "start", "start x", "start 2 2", "start 02", "load", "load ",
                 "load till", "load module till|", "load  module till", "load module till ", "load module till\n", "load module\ntill", "load module if", "replace 0", "replace 0 ",
                 "replace module till", "replace 0  module till", "replace 00 module till", "replace -1 module till", "replace 0 module till|", "begin 0", "begin 0 1",
                 "begin 0 0 till.take 1/1", "begin 0 10 till.take 1/1", "begin 0 01 till.take 1/1", "begin 00 1 till.take 1/1", "begin x 1 till.take 1/1", "begin 0 x till.take 1/1",
                 "begin 0 1 till 1/1", "begin 0 1 till.take 1/2/3", "begin 0 1 till.take 2/4", "begin 0 1 till.take -0", "begin 0 1 till.take 01", "begin 0 1 till.take x",
                 "begin 0 1 till.take  1/1", "begin 0 1 till.take ", "begin 0 1 till.take (1 + 1)", "begin 0 till.take 1 1/1", "begin 1 till.take", "crash", "crash ", "crash x",
                 "crash 0  0", "crash 0 -1", "crash 00", "crash 0 ", "go", "go a0", "go a0 0 0", "go 0 0", "go a 0", "go a00 0", "go a0 00", "go a-1 0", "go b0 0", "go A0 0", "go a0 -1",
                 "go a 0 0", "go archive 0", "go a0 x", "lost", "lost ", "lost till", "lost till.take 2/4", "lost till.take 1/1 ", "lost 1 till.take 1/1", "lost run till.take 1 1/1",
                 "run till.take 1 5/1", "crash " + "7" * 4001, "step " + "7" * 4001, "go a0 " + "7" * 4001]
        for value in (*wrong, *[value for value in ODD_VALUES if not isinstance(value, str)], 0):
            check_error(self, InvalidCommand, {"value": value}, console.execute, value)
            check_error(self, InvalidCommand, {"value": value}, other.execute, value)

    def test_not_started(self):
        console = Console()
        for command in ("begin 0 1 till.take 1/1", "step 0", "end 9", "replace 0 module till", "sync 0", "letgo", "crash 0", "cells", "kept", "go a0 0", "forward", "back", "show",
                        "lost till.take"):
            check_error(self, NotStarted, {}, console.execute, command)

    def test_already_started(self):
        console = started()
        for command in (f"load {line(TILL)}", "load module shop", "start 2", "start 9"):
            check_error(self, AlreadyStarted, {}, console.execute, command)

    def test_errors_of_the_functions(self):
        console = started()
        console.execute("begin 1 1 till.move 1")
        before = console.debugger.engine.clone()
        for command, error, attributes in (
            ("begin 3 1 till.none", UnknownLane, {"value": 3}), ("begin 1 1 till.none", LaneBusy, {"lane_number": 1}), ("begin 0 1 till.none", UnknownProcedure, {"name": "till.none"}),
            ("begin 0 1 till.take", InvalidArguments, {"position": None}), ("begin 0 1 till.take 1", InvalidArguments, {"position": 0}),
            ("begin 0 1 till.move 1/1", InvalidArguments, {"position": 0}), ("step 7", UnknownLane, {"value": 7}), ("step 0", NoRun, {"lane_number": 0}),
            ("end 3", UnknownLane, {"value": 3}), ("end 2", NoRun, {"lane_number": 2}), ("replace 3 module till", UnknownLane, {"value": 3}),
            ("replace 1 module till|import shop", LaneBusy, {"lane_number": 1}), ("replace 0 module till|import shop", MissingModule, {"name": "shop"}),
            ("replace 0 module bank|import till", ImportRing, {"names": ["bank", "till"]}), ("replace 0 module till|procedure p", Unchecked, {"module": "till"}),
            ("replace 0 module bank", BadImport, {"importer": "till"}), ("replace 0 module till|carry cash = 1/1", BadCarry, {"position": 0}),
            ("replace 0 module till", InUse, {"lane_number": 1}), ("sync 3", UnknownLane, {"value": 3}), ("crash 1 0 0", InvalidLength, {"value": 1}),
            ("lost till.none", UnknownProcedure, {"name": "till.none"}), ("lost till.take", InvalidArguments, {"position": None}), ("go a0 0", UnknownKey, {"value": ("archive", 0)}),
            ("go l1 1", UnknownStop, {"stop_number": 1}), ("show", NoSpot, {}),
        ):
            check_error(self, error, attributes, console.execute, command)
        self.assertEqual(console.debugger.engine, before)


class RunTest(unittest.TestCase):
    def test_answers(self):
        console = Console()
        check_same(self, [console.run(commands=[]), console.run(()), console.run(("load module bank", "start 1"))], [[], [], ["bank", "ok"]])
        for value in (*[value for value in ODD_VALUES if not isinstance(value, (list, tuple))], 0, "cells"):
            check_error(self, InvalidCommand, {"value": value}, console.run, value)

    def test_a_list_that_fails_in_the_middle(self):
        console = started()
        console.run(["begin 0 1 till.take 5/1", "end 0", "begin 1 1 till.move 0", "forward"])
        debugger, engine, archive = console.debugger, console.debugger.engine.clone(), console.debugger.archive.clone()
        journal = console.debugger.engine.journal()
        for commands, answers, cause in (
            (["step 1", "end 1", "step 1"], ["till.move 1 -", "1"], NoRun), (["forward", "sync 0", "letgo", "crash 0 0 0", "show"], ["e0 1 till.take 1 -", "ok", "1", "0"], NoSpot),
            (["replace 0 module shop", "load module till"], ["1"], AlreadyStarted), (["begin 2 1 till.take 1/1", "letgo"], ["till.take 0 -"], NotDurable), (["cells "], [], InvalidCommand),
            (["sync 1", None], ["ok"], InvalidCommand), (["go l1 0", "go l1 1"], ["l1 0 till.move 0 -"], UnknownStop), (["step 3"], [], UnknownLane),
            (["step 1", "step 1", "step 1", "step 1"], ["till.move 1 -", "till.move 2 -", "over"], Over), (["begin 2 1 till.none"], [], UnknownProcedure),
            (["begin 1 1 till.take 1/1"], [], LaneBusy), (["replace 0 module till"], [], InUse), (["replace 0 module aa|import cc"], [], MissingModule),
            (["replace 0 module bank|import till"], [], ImportRing), (["go e5 0"], [], UnknownKey), (["lost till.take 1"], [], InvalidArguments),
        ):
            with self.assertRaises(CommandFailed) as caught:
                console.run(commands)
            check_same(self, [caught.exception.position, caught.exception.answers], [len(answers), answers])
            self.assertIs(type(caught.exception.__cause__), cause)
            self.assertIs(console.debugger, debugger)
            self.assertEqual([debugger.engine, debugger.archive, debugger.engine.journal(), debugger.cursor()], [engine, archive, journal, (("ended", 0), 0)])
        check_same(self, console.run(["step 1", "forward", "show"]), ["till.move 1 -", "e0 1 till.take 1 -", "x=5/1"])
        check_same(self, console.debugger.engine.run_of(1).stop_count, 2)

    def test_a_list_that_fails_before_the_start(self):
        console = Console()
        console.execute("load module bank")
        for commands, position, cause in ((["load module till", "load module bank"], 1, DuplicateModule), (["load module till", "start 2", "start 2"], 2, AlreadyStarted),
                                          (["cells"], 0, NotStarted), (["load module till|procedure p", "start 1"], 1, Unchecked), (["start 7"], 0, InvalidLanes)):
            with self.assertRaises(CommandFailed) as caught:
                console.run(commands)
            check_same(self, [caught.exception.position, console.debugger], [position, None])
            self.assertIs(type(caught.exception.__cause__), cause)
        check_same(self, console.run(["load module till", "start 2"]), ["till", "ok"])
        check_same(self, console.debugger.engine.program.modules(), ["bank", "till"])

    def test_whoever_has_the_debugger_sees_what_happens(self):
        console = started()
        debugger = console.debugger
        console.run(["begin 0 1 till.take 5/1", "end 0", "forward"])
        self.assertIs(console.debugger, debugger)
        check_same(self, [len(debugger.engine), debugger.cursor()], [1, (("ended", 0), 0)])
        self.assertTrue(issubclass(InvalidCommand, LeastlogError))


if __name__ == "__main__":
    unittest.main()
