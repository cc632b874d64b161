"""[3] What is still specified: 60 ended runs, archives of 45 runs with as many symbols, 150 conditions, runs of 2,000 steps."""

import unittest
from random import Random

from archivecases import Told, chosen_numbers, run_history
from enginemodel import ALL_PASSES
from helpers import check_same

from leastlog.amounts import Amount
from leastlog.archives import Archive
from leastlog.archivetexts import archive_text, read_archive
from leastlog.console import Console
from leastlog.debugger import Debugger
from leastlog.engine import Engine
from leastlog.moduletexts import read_module
from leastlog.programs import Program
from leastlog.runs import Run

TEXT = """module till
cell sum
cells box 9
cells bag 9
export procedure work x:amount n:count k:count
  add sum (x * n)
  put box[k] = ((@box[k] / 3) + (@sum * 2/7))
  if (@sum less @box[n])
    put bag[k] = (@sum - x)
  if (@bag[n] less @box[k])
    add box[n] x
  if ((x - @bag[k]) less (@box[0] + @sum))
    add bag[n] (@box[1] - x)
  return
export procedure long x:amount n:count
  repeat n as k
    let y = (@sum + (x * k))
    put box[1] = (y / 2)
    add sum x
  return
"""
PROGRAM = Program(read_module(TEXT))


def call(random):
    return "till.work", [Amount(random.randint(-50, 50), random.randint(1, 7)), random.randint(0, 8), random.randint(0, 8)]


class LimitsTest(unittest.TestCase):
    def test_many_ended_runs(self):
        random = Random(60)
        engine = Engine(PROGRAM, lanes=5, passes=ALL_PASSES)
        for number in range(60):
            check_same(self, engine.execute(random.randrange(5), *call(random)), number)
        journal = engine.journal()
        for lane in range(5):
            check_same(self, journal.counting()[lane], len(journal.entries(lane)))
        restored = Engine.restored(PROGRAM, journal)
        check_same(self, [len(restored), restored.cells()], [60, engine.cells()])
        debugger = Debugger(engine, Archive(PROGRAM))
        check_same(self, [len(debugger.run_keys()), debugger.back()[0]], [60, ("ended", 59)])
        for lane in range(5):
            engine.sync(lane)
        check_same(self, [engine.durable(), engine.release()], [list(range(60)), 60])

    def test_a_great_archive(self):
        random = Random(45)
        found = Told(PROGRAM, {cell: Amount(random.randint(-9, 9)) for cell in PROGRAM.cells()})
        for _ in range(3):
            for _ in range(15):
                found.engine.execute(random.randrange(3), *call(random), weight=random.randint(1, 9))
            found.let_go()
        archive = found.archive
        check_same(self, [len(archive), len(archive.symbols()), len(archive.region().conditions())], [45, 45, 135])
        check_same(self, archive.point(), dict(sorted(found.point().items())))
        check_same(self, list(zip([what for what, _ in archive.kept()], archive.costs())), chosen_numbers(found))
        self.assertEqual(read_archive(archive_text(archive)), archive)
        for run in (0, 20, 44):
            check_same(self, archive.trace_of(run), Run.traced(*found.before[run][:1], *found.records[run][1:3], found.before[run][1]))
        index = len(archive.kept()) - 1
        (paths, stores), (others, other_stores) = [run_history(found, history) for history in archive.histories(index)]
        check_same(self, [paths, stores[-1]], [others, other_stores[-1]])
        debugger = Debugger(found.engine, archive)
        self.assertEqual(debugger.why_kept(index)[2][0][0], "archive")
        check_same(self, debugger.back(), (("archive", 44), debugger.stops_of(("archive", 44)) - 1))

    def test_a_long_run(self):
        found = Told(PROGRAM, {"till.sum": Amount(1, 2)}, passes=ALL_PASSES)
        found.engine.begin(0, "till.long", [Amount(1, 3), 660])
        for _ in range(1000):
            found.engine.step(0)
        place = found.engine.run_of(0).place
        found.engine.replace(1, read_module(TEXT.replace("add bag[n] (@box[1] - x)", "add bag[n] x")))
        check_same(self, [found.engine.fate_of(0), found.engine.run_of(0).place], ["carried", place])
        found.engine.finish(0)
        check_same(self, [found.engine.end(0), found.engine.stop_count_of(1)], [1, 1982])
        found.let_go()
        debugger = Debugger(found.engine, found.archive)
        check_same(self, [debugger.stops_of(("archive", 1)), debugger.at(("archive", 1), 1000)[0]], [1982, place])
        check_same(self, debugger.at(("archive", 1), 1000), debugger.at(*debugger.go(("archive", 1), 1000)))

    def test_a_long_run_by_commands(self):
        console = Console()
        console.run([f"load {TEXT[:-1]}".replace("\n", "|"), "start 1", "begin 0 1 till.long 1/3 600"])
        answers = [console.execute("step 0") for _ in range(1802)]
        check_same(self, [answers[0], answers[1799:]], ["till.long 0.a.0 0", ["till.long 0.a.2 599", "till.long 1 -", "over"]])


if __name__ == "__main__":
    unittest.main()
