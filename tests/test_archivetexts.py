"""Texts of archives and slots: [4] READ BACK, and saving that stops."""

import unittest
from random import Random

from archivecases import random_stories
from helpers import ODD_VALUES, check_error, check_same
from test_archives import PLACE, SHOP, told
from test_engine import PROGRAM, VERSIONS

from leastlog.amounts import Amount
from leastlog.archives import Archive
from leastlog.archivetexts import archive_text, read_archive
from leastlog.errors import InvalidLength, InvalidText
from leastlog.failures import NoArchive
from leastlog.moduletexts import read_module
from leastlog.programs import Program
from leastlog.seals import sealed
from leastlog.slots import Slots


def archives():
    """Archives of several kinds."""
    found = [Archive(PLACE), Archive(Program()), Archive(PLACE, {"shop.tin": Amount(-1, 3)}), told(("take", [3]), ("take", [5], 7), parts=[1]).archive,
             told(("swap", [3, (2,), (True,)]), ("swap", [-4, (-10 ** 12,), (False,)]), ("twin", [1, 1])).archive]
    replaced = told(("both", [3, 4]), ("take", [5]))
    replaced.engine.replace(1, read_module(SHOP.replace("cell tin\n", "cell tin\ncarry cash = ((@cash * 2/1) + @tin)\n")))
    replaced.engine.replace(1, read_module("module bank\nimport shop\ncells box 2\n"))
    replaced.engine.execute(0, "shop.join", [Amount(1, 7)])
    replaced.let_go()
    return [*found, replaced.archive]


def queries(archive):
    """All that an archive tells."""
    runs = range(len(archive))
    found = [archive.cut_number, archive.taken, archive.records(), archive.cells(), archive.kept(), archive.costs(), archive.symbols(), archive.region().conditions(),
             archive.cell_forms(), archive.kept_forms(), archive.point(), [archive.trace_of(run) for run in runs], [archive.cells_before(run) for run in runs]]
    return found, [archive.program, *[archive.program_before(run) for run in runs]]


class TextTest(unittest.TestCase):
    def check(self, archive):
        text = archive_text(archive=archive)
        self.assertIsInstance(text, str)
        self.assertEqual(archive_text(archive), text)
        found = read_archive(text=text)
        self.assertEqual(found, archive)
        check_same(self, queries(found)[0], queries(archive)[0])
        self.assertEqual(queries(found)[1], queries(archive)[1])
        self.assertEqual(archive_text(found), text)
        return found

    def test_known_archives(self):
        texts = [archive_text(self.check(archive)) for archive in archives()]
        self.assertEqual(len(set(texts)), len(texts))

    def test_random_archives(self):
        random = Random(90)
        for found in [*random_stories(random, 90, 12), *random_stories(random, 0, 0, versions=VERSIONS, pool=[PROGRAM] * 4)]:
            other = self.check(found.archive)
            if found.engine.is_busy(0):
                found.engine.drop(0)
            found.engine.execute(0, *self.call(found.engine))
            engine = found.engine.clone()
            for lane in range(engine.lanes):
                engine.sync(lane)
            check_same(self, other.let_go(engine), found.let_go())
            self.assertEqual(other, found.archive)

    def call(self, engine):
        """A call of some exported procedure."""
        name, text, sorts = next((name, text, part[0]) for name, told in engine.program.interfaces().items() for text, part in told.items())
        return f"{name}.{text}", [{"amount": Amount(7), "count": 1, "truth": True}[sort] for sort in sorts]

    def test_shorter_beginnings(self):
        for archive in archives()[1:4]:
            text = archive_text(archive)
            for length in range(len(text)):
                check_error(self, InvalidText, {"line": 1}, read_archive, text[:length])

    def test_replaced_characters(self):
        random = Random(91)
        for archive in archives()[2:5]:
            text = archive_text(archive)
            for at, was in enumerate(text):
                for character in {*random.sample(" \n-/|;#0123456789abcxyz@_(.,=", 3), "\n", " "} - {was}:
                    check_error(self, InvalidText, {"line": 1}, read_archive, text[:at] + character + text[at + 1:])

    def test_no_strings(self):
        for value in (*[value for value in ODD_VALUES if not isinstance(value, str)], 0, Archive(PLACE)):
            check_error(self, InvalidText, {"line": 0}, read_archive, value)
        for text in ("", "\n", "a", "0 7 \n", sealed("archive"), sealed("archive####")):
            check_error(self, InvalidText, {"line": 1}, read_archive, text)


class SlotsTest(unittest.TestCase):
    def stages(self):
        """The same archive at three cuts."""
        found = told(("take", [3]))
        stages = [found.archive.clone()]
        for amount in (5, 8):
            found.engine.execute(0, "shop.take", [Amount(amount)])
            found.let_go()
            stages.append(found.archive.clone())
        return stages

    def test_save_and_load(self):
        one, two, three = self.stages()
        slots = Slots()
        check_same(self, slots.texts(), ("", ""))
        check_error(self, NoArchive, {}, slots.load)
        check_same(self, slots.save(archive=one), 1)
        self.assertEqual([slots.load(), slots.texts()[1]], [one, ""])
        first = slots.texts()[0]
        check_same(self, slots.save(two), 2)
        self.assertEqual([slots.load(), slots.texts()[0]], [two, first])
        second = slots.texts()[1]
        check_same(self, slots.save(three), 3)
        self.assertEqual([slots.load(), slots.texts()[1]], [three, second])
        check_same(self, [slots.save(three), slots.save(one)], [4, 5])
        self.assertEqual(slots.load(), one)
        again = Slots(*slots.texts())
        self.assertEqual([again.load(), again.texts(), again.save(two)], [one, slots.texts(), 6])
        self.assertEqual(Slots(first=slots.texts()[1], second=slots.texts()[0]).load(), one)
        check_same(self, Slots(slots.texts()[1], slots.texts()[0]).save(two), 6)

    def test_the_numbers_of_slots(self):
        one, two, three = self.stages()
        slots = Slots()
        for archive in (one, two, three):
            slots.save(archive)
        newer, older = slots.texts()
        swapped = Slots(older, newer)
        check_same(self, swapped.save(one), 4)
        self.assertEqual([swapped.load(), swapped.texts()[1]], [one, newer])
        for broken in ("", "0 7 \n", "1234567", newer[:-1], newer[:10], newer[:5] + "~" + newer[6:]):
            for texts, slot in (((broken, older), 0), ((older, broken), 1)):
                found = Slots(*texts)
                self.assertEqual(found.load(), two)
                check_same(self, found.save(one), 3)
                self.assertEqual([found.load(), found.texts()[1 - slot]], [one, older])
            both = Slots(broken, newer[:-2])
            check_error(self, NoArchive, {}, both.load)
            check_same(self, both.save(one), 1)
            self.assertEqual([both.load(), both.texts()[1]], [one, newer[:-2]])

    def test_saving_stopped_at_every_length(self):
        one, two, three = self.stages()
        slots = Slots()
        for saved, archive in ((None, one), (one, two), (two, three)):
            before = slots.texts()
            after = Slots(*before)
            after.save(archive)
            slot = [was != now for was, now in zip(before, after.texts())].index(True)
            text = after.texts()[slot]
            for length in range(len(text) + 1):
                found = slots.stopped(archive=archive, length=length)
                self.assertEqual([found.texts()[slot], found.texts()[1 - slot]], [text[:length], before[1 - slot]])
                if length == len(text):
                    self.assertEqual(found.load(), archive)
                elif saved is None:
                    check_error(self, NoArchive, {}, found.load)
                else:
                    self.assertEqual(found.load(), saved)
            for value in (*ODD_VALUES, -1, len(text) + 1, 10 ** 20):
                check_error(self, InvalidLength, {"value": value}, slots.stopped, archive, value)
            self.assertEqual(slots.texts(), before)
            slots.save(archive)

    def test_going_on_after_a_stop(self):
        one, two, three = self.stages()
        slots = Slots()
        slots.save(one)
        slots.save(two)
        found = slots.stopped(three, 20)
        self.assertEqual([found.load(), found.save(three), found.load()], [two, 3, three])
        self.assertEqual(slots.load(), two)

    def test_one_replaced_character(self):
        one, two, _ = self.stages()
        slots = Slots()
        slots.save(one)
        slots.save(two)
        first, second = slots.texts()
        for at, was in enumerate(second):
            character = "x" if was != "x" else "1"
            self.assertEqual(Slots(first, second[:at] + character + second[at + 1:]).load(), one)


if __name__ == "__main__":
    unittest.main()
