"""[4] Whole stories: lanes, crashes, new versions, letting go and saving, looked at from outside."""

import unittest
from random import Random

from cases import argument, random_programs
from enginemodel import ALL_PASSES
from helpers import check_same
from test_engine import PROGRAM, VERSIONS
from versions import changed_version

from leastlog.amounts import Amount
from leastlog.archives import Archive
from leastlog.archivetexts import archive_text, read_archive
from leastlog.debugger import Debugger
from leastlog.engine import Engine
from leastlog.failures import InUse
from leastlog.orders import difference, exchanged, keeps
from leastlog.payloads import payload_of, read_payload
from leastlog.replacing import replaced_cells
from leastlog.runs import Run
from leastlog.slots import Slots
from leastlog.systems import form_rank


class Story:
    """An engine, an archive and slots, and the records of all runs that count, in their order."""

    def __init__(self, random, program, versions):
        self.random, self.program, self.versions = random, program, versions
        self.cells = {cell: Amount(random.randint(-2, 3)) for cell in program.cells()}
        self.engine = Engine(program, lanes=3, cells=self.cells, passes=random.choice(((), ALL_PASSES)))
        self.archive, self.slots = Archive(program, self.cells), Slots()
        self.debugger = Debugger(self.engine, self.archive)
        self.slots.save(self.archive)
        # What has gone into the archive, and how many entries of each lane were sure and written at the last crash.
        self.gone = []

    def records(self):
        return [*self.gone, *[self.engine.record_of(number) for number in self.engine.run_numbers()]]

    def act(self):
        lane = self.random.randrange(3)
        word = self.random.choice(("begin", "step", "step", "end", "end", "end", "sync", "replace"))
        if word == "sync":
            self.engine.sync(lane)
        elif not self.engine.is_busy(lane):
            self.begin(lane) if word != "replace" else self.replace(lane)
        elif word == "step" and not self.engine.run_of(lane).is_over:
            self.engine.step(lane)
        elif word == "end":
            self.engine.finish(lane)
            self.engine.end(lane)

    def begin(self, lane):
        program = self.engine.program
        text = self.random.choice([f"{name}.{text}" for name, part in program.interfaces().items() for text in part])
        arguments = [argument(self.random, sort) for _, sort in program.procedure_at(text)[3]]
        self.engine.begin(lane, text, arguments, weight=self.random.randint(1, 9))

    def replace(self, lane):
        program = self.engine.program
        module = self.random.choice(self.versions) if self.versions else changed_version(self.random, program, self.random.choice(program.modules()))
        try:
            self.engine.replace(lane, module)
        except InUse:
            pass

    def let_go(self):
        for lane in range(3):
            self.engine.sync(lane)
        gone = [self.engine.record_of(number) for number in self.engine.run_numbers()]
        check = self.archive.let_go(self.engine)
        assert check == len(gone)
        self.gone += gone
        self.slots.save(self.archive)

    def crash(self):
        """The disks stop at drawn lengths; the archive is read from the slots; all goes on."""
        journal = self.engine.journal()
        disks = [journal.disk(lane) for lane in range(3)]
        found = journal.stopped([self.random.randint(disk.sure, len(disk.content)) for disk in disks])
        self.archive = Slots(*self.slots.texts()).load()
        if self.archive.taken:
            found.drop(list(self.archive.taken))
        self.engine = Engine.restored(self.archive.program, found, cells=self.archive.cells(), passes=self.engine.passes)
        self.debugger = Debugger(self.engine, self.archive)
        return journal, found


def replayed(story):
    """For each run that counts the record, and the program and the cells before it, by plain runs in their order; and what is there at last."""
    program, cells, rows = story.program, dict(sorted(story.cells.items())), []
    for record in story.records():
        rows.append((record, program, cells))
        if record[0] == "module":
            cells = replaced_cells(program, record[1], cells)
            program = program.with_module(record[1])
        else:
            run = Run(program, record[1], record[2], cells)
            run.finish()
            cells = {**cells, **run.writes()}
    return rows, program, cells


class StoriesTest(unittest.TestCase):
    def test_stories(self):
        random = Random(100)
        programs = [*random_programs(100, 12), *[PROGRAM] * 12]
        crashes = 0
        for made in programs:
            story = Story(random, made, VERSIONS if made == PROGRAM else ())
            for _ in range(4):
                for _ in range(random.randint(5, 18)):
                    story.act()
                self.check_story(story)
                if random.random() < 0.4 and len(story.records()) < 20 and len(story.archive.region().conditions()) < 60:
                    story.let_go()
                    self.check_story(story)
                if random.random() < 0.6:
                    self.check_crash(story)
                    crashes += 1
        self.assertGreater(crashes, 30)

    def check_story(self, story):
        rows, program, cells = replayed(story)
        check_same(self, story.engine.cells(), cells)
        self.assertEqual(story.engine.program, program)
        self.check_stops(story, rows)
        self.check_archive(story)
        self.check_pairs(story.engine)

    def check_stops(self, story, rows):
        """TRUE STOPS: each stop of each run that counts, and of each run under way."""
        expected = []
        for number, (record, program, cells) in enumerate(rows):
            key = ("archive", number) if number < len(story.gone) else ("ended", number - len(story.gone) + story.engine.released)
            if record[0] == "run":
                run = Run(program, record[1], record[2], cells)
                expected += [((key, stop), shown) for stop, shown in enumerate(run.walk())]
                check_same(self, [tuple(run.path()), run.outcome[0 if run.outcome[0] == "gave" else 1]], list(record[4:]))
        for lane in range(3):
            if story.engine.is_busy(lane):
                expected += [((("live", lane), stop), shown) for stop, shown in enumerate(self.live_stops(story, lane))]
        check_same(self, list(story.debugger.spots()), [spot for spot, _ in expected])
        for spot, shown in story.random.sample(expected, min(len(expected), 25)):
            check_same(self, story.debugger.at(*spot), shown)

    def live_stops(self, story, lane):
        """What a run under way has if it stands behind the runs that had ended at its standing."""
        standing = story.engine.standing_of(lane)
        procedure, arguments, _ = story.engine.call_of(lane)
        run = Run(story.engine.program_at(standing), procedure, arguments, story.engine.cells_at(standing))
        return list(run.walk())[:story.debugger.stops_of(("live", lane))]

    def check_archive(self, story):
        """NOTHING FORGOTTEN, NOTHING IN VAIN, READ BACK."""
        archive = story.archive
        check_same(self, [archive.arguments_of(run) for run in range(len(archive))], [list(record[2]) if record[0] == "run" else [] for record in story.gone])
        rank = form_rank([*archive.region().flat(), *archive.cell_forms().values()])
        check_same(self, len(archive.kept()), len(archive.symbols()) - rank)
        self.assertEqual(read_archive(archive_text(archive)), archive)
        self.assertEqual(story.slots.load(), archive)
        for record in story.records():
            text = payload_of(record if record[0] == "module" else record[:4])
            self.assertEqual(payload_of(read_payload(text)), text)

    def check_pairs(self, engine):
        """LEAST PAIRS: each pair changes what some run reads, or a last version, if it is left out."""
        history = engine.ledger().history()
        self.assertTrue(keeps(history, list(range(len(history)))))
        for number in engine.run_numbers():
            for other in engine.pairs(number):
                self.assertIsNotNone(difference(history, exchanged(history, number, other)))

    def check_crash(self, story):
        """WHOLE: all durable runs count, and what counts is a part of what had ended that others do not miss."""
        engine = story.engine
        spots = [entry[:2] for lane in range(3) for entry in engine.journal().entries(lane)]
        durable = engine.journal().durable()
        ledger = engine.ledger()
        ended = {}
        ahead = [cut - sum(ledger.spot_of(number)[0] == lane for number in range(engine.released)) for lane, cut in enumerate(engine.journal().cut())]
        for number in engine.run_numbers():
            lane, place = ledger.spot_of(number)
            ended[(lane, place + ahead[lane])] = engine.record_of(number)
        check_same(self, sorted(ended), sorted(spots))
        _, found = story.crash()
        order = found.order()
        check_same(self, [story.engine.record_of(number) for number in story.engine.run_numbers()], [ended[spot] for spot in order])
        self.assertTrue(all(spot in order for spot in spots if spot[1] < durable[spot[0]]))
        check_same(self, [story.engine.is_busy(lane) for lane in range(3)], [False] * 3)
        self.check_story(story)


if __name__ == "__main__":
    unittest.main()
