"""[46], [47] Journals."""

import re
import unittest
from random import Random

from helpers import ODD_VALUES, check_error, check_same

from leastlog.disks import Disk
from leastlog.entries import entry_record, read_entry
from leastlog.errors import InvalidCount, InvalidCut, InvalidLength, InvalidRecord
from leastlog.failures import NotRecovered, UnknownEntry, UnknownLane
from leastlog.journals import Journal
from leastlog.lanelogs import LaneLog
from leastlog.seals import sealed, whole_records

NO_LANES = (*ODD_VALUES, -1, 3, 10 ** 20)


class Reading:
    """What [46] and [47] say of the contents of disks behind cuts, by their texts."""

    def __init__(self, texts, cut):
        self.cut = cut
        self.found = []
        for lane, text in enumerate(texts):
            entries = []
            for record in whole_records(text):
                parts = re.fullmatch(r"(\d+) (-|[\d.,]+) (.*)", record)
                if not parts or int(parts[1]) != cut[lane] + len(entries):
                    break
                pairs = () if parts[2] == "-" else tuple(tuple(map(int, word.split("."))) for word in parts[2].split(","))
                entries.append((lane, int(parts[1]), pairs, parts[3]))
            self.found.append(entries)
        self.count()

    def count(self):
        """Takes away entries that do not count until nothing changes: what is left is as great as possible."""
        self.counts = {(lane, place) for lane, entries in enumerate(self.found) for _, place, _, _ in entries}
        named = {entry[:2]: entry[2] for entries in self.found for entry in entries}
        changed = True
        while changed:
            wrong = {spot for spot in self.counts
                     if not all(self.is_there(one) for one in [*named[spot], *([(spot[0], spot[1] - 1)] if spot[1] else [])])}
            self.counts -= wrong
            changed = bool(wrong)
        self.named = named

    def is_there(self, spot):
        return spot[1] < self.cut[spot[0]] or spot in self.counts

    def numbers(self):
        return [cut + sum(spot[0] == lane for spot in self.counts) for lane, cut in enumerate(self.cut)]

    def order(self):
        order = []
        while len(order) < len(self.counts):
            ready = [spot for spot in self.counts - set(order) if all(
                one in order or one[1] < self.cut[one[0]] for one in [*self.named[spot], *([(spot[0], spot[1] - 1)] if spot[1] else [])])]
            order.append(min(ready))
        return order


def contents(journal, lanes):
    return [journal.disk(lane).content for lane in range(lanes)]


def check_reading(case, journal, lanes):
    """Fails unless the journal is what its disks and its cut say; returns the reading."""
    disks = [journal.disk(lane) for lane in range(lanes)]
    reading = Reading([disk.content for disk in disks], journal.cut())
    check_same(case, [journal.entries(lane) for lane in range(lanes)], reading.found)
    check_same(case, [journal.counting(), journal.order()], [reading.numbers(), reading.order()])
    sure = Reading([disk.content[:disk.sure] for disk in disks], journal.cut())
    check_same(case, journal.durable(), sure.numbers())
    return reading


def random_journal(random, lanes, entries, journal=None):
    """A journal with so many more entries, some of which name others."""
    journal = journal or Journal(lanes)
    for _ in range(entries):
        lane = random.randrange(lanes)
        known = [(other, place) for other in range(lanes) if other != lane for place in range(journal.counting()[other])]
        pairs = random.choices(known[-6:], k=random.choice((0, 0, 1, 2, 3))) if known else []
        journal.enter(lane, pairs, random.choice(("", "run a.b 1", "x  y", "1 2", "|", "~" * 20)))
        if random.random() < 0.2:
            journal.sync(*random.choice(((), (lane,), (0, lanes - 1))))
    return journal


def random_stop(random, journal, lanes):
    disks = [journal.disk(lane) for lane in range(lanes)]
    return journal.stopped([random.randint(disk.sure, len(disk.content)) for disk in disks])


class EnterTest(unittest.TestCase):
    def test_rows(self):
        journal = Journal(lanes=3)
        check_same(self, [journal.enter(0, [], "run a.b 1"), journal.enter(0, (), ""), journal.enter(lane=2, pairs=[(0, 1), (0, 0), (0, 1)], payload=" x")], [0, 1, 0])
        check_same(self, [journal.enter(1, ((2, 0), (0, 1), (2, 0)), "-"), journal.enter(2, [(1, 0)], "1 2")], [0, 1])
        check_same(self, contents(journal, 3), [sealed("0 - run a.b 1") + sealed("1 - "), sealed("0 0.1,2.0 -"), sealed("0 0.0,0.1  x") + sealed("1 1.0 1 2")])
        check_same(self, journal.entries(2), [(2, 0, ((0, 0), (0, 1)), " x"), (2, 1, ((1, 0),), "1 2")])
        check_same(self, [journal.entries(0), journal.entries(lane=1)], [[(0, 0, (), "run a.b 1"), (0, 1, (), "")], [(1, 0, ((0, 1), (2, 0)), "-")]])
        check_reading(self, journal, 3)

    def test_long_numbers(self):
        journal = Journal(2)
        for at in range(12):
            journal.enter(0, [], str(at))
        journal.enter(1, [(0, 11), (0, 2)], "")
        check_same(self, [journal.disk(1).content, journal.entries(1)], [sealed("0 0.2,0.11 "), [(1, 0, ((0, 2), (0, 11)), "")]])
        check_reading(self, journal, 2)

    def test_errors_in_sequence(self):
        journal = Journal(3)
        journal.enter(0, [], "a")
        journal.enter(1, [(0, 0)], "b")
        before = contents(journal, 3)
        for value in NO_LANES:
            for call in (lambda one: journal.enter(one, None, None), journal.entries, journal.disk, journal.sync):
                check_error(self, UnknownLane, {"value": value}, call, value)
        check_error(self, UnknownLane, {"value": 3}, journal.sync, 0, 1, 3)
        for value in (*[value for value in ODD_VALUES if not isinstance(value, (list, tuple))], 0):
            check_error(self, UnknownEntry, {"value": value}, journal.enter, 2, value, None)
        for value in (*ODD_VALUES, 0, [0, 0], (0, 1), (2, 0), (3, 0), (-1, 0), (0, -1), (0,), (0, 0, 0), (False, 0), (0, False), (True, 0), ("0", 0), (0, None),
                      (0, 10 ** 20), (2, 1)):
            check_error(self, UnknownEntry, {"value": value}, journal.enter, 2, [(1, 0), value, None], None)
        check_error(self, UnknownEntry, {"value": (0, 0)}, journal.enter, 0, [(0, 0)], "c")
        for value in (*[value for value in ODD_VALUES if not isinstance(value, str)], 0, "a\n", "\n", "a\nb"):
            check_error(self, InvalidRecord, {"value": value}, journal.enter, 2, [(1, 0)], value)
        for value in (*ODD_VALUES, 0, -1, 9, 10 ** 20):
            check_error(self, InvalidCount, {"value": value}, Journal, value)
        check_same(self, [contents(journal, 3), journal.durable()], [before, [0, 0, 0]])

    def test_text_behind_the_entries(self):
        journal = Journal(2)
        journal.enter(0, [], "a")
        journal.enter(0, [], "b")
        length = len(journal.disk(0).content)
        for at in range(length + 1):
            found = journal.stopped([at, 0])
            if at in (0, length // 2, length):
                check_same(self, found.enter(0, [], "c"), [0, length // 2, length].index(at))
            else:
                check_error(self, NotRecovered, {"lane_number": 0}, found.enter, 0, None, None)
                check_same(self, [found.enter(1, [], "c"), found.recovered().enter(0, [], "d")], [0, at // (length // 2)])


class EntriesTest(unittest.TestCase):
    """What is an entry on a disk, and what is not."""

    def test_records(self):
        for entry, record in (((2, 0, (), ""), "0 - "), ((2, 12, ((0, 3), (1, 10)), " a b"), "12 0.3,1.10  a b"), ((0, 999999999, ((7, 999999999),), "-"), "999999999 7.999999999 -")):
            check_same(self, [read_entry(entry[0], record), entry_record(*entry[1:])], [entry, record])

    def test_records_that_are_nearly_entries(self):
        for record in ("", "0", "0 -", "0  ", " - x", "00 - x", "01 - x", "-1 - x", "+1 - x", "x - x", "0  - x", "0 1.0, x", "0 ,1.0 x", "0 1.0,1.0 x", "0 1.1,1.0 x", "0 1.10,1.9 x",
                       "0 2.0 x", "0 1.00 x", "0 01.0 x", "0 1 x", "0 1.0.0 x", "0 .0 x", "0 1. x", "0 -1.0 x", "0 1.-1 x", "1000000000 - x", "0 1.1000000000 x", "0 -,1.0 x"):
            check_same(self, read_entry(2, record), None)

    def test_disks(self):
        """The entries that are found are those ahead of the first row that is none, or has another place."""
        rows = [sealed("3 - a"), sealed("4 1.0 b"), sealed("5 - c")]
        for text, many in (("".join(rows), 3), (rows[0] + rows[2], 1), (rows[1], 0), (rows[0] + rows[0], 1), (rows[0] + sealed("4 0.0 b") + rows[2], 1), (rows[0] + "x" + rows[1], 1)):
            log = LaneLog(0, Disk(text), 3)
            check_same(self, [log.entries(), log.size(), log.sure_size()], [[(0, 3, (), "a"), (0, 4, ((1, 0),), "b"), (0, 5, (), "c")][:many], 3 + many, 3 + many])
            check_same(self, log.is_recovered(), text == "".join(rows))


class CountingTest(unittest.TestCase):
    def test_a_lost_entry_takes_others_with_it(self):
        journal = Journal(3)
        journal.enter(0, [], "a")
        journal.enter(1, [(0, 0)], "b")
        journal.enter(2, [(1, 0)], "c")
        journal.enter(2, [], "d")
        lengths = [len(text) for text in contents(journal, 3)]
        check_same(self, [journal.counting(), journal.order()], [[1, 1, 2], [(0, 0), (1, 0), (2, 0), (2, 1)]])
        found = journal.stopped([0, *lengths[1:]])
        check_same(self, [found.counting(), found.order(), found.durable(), found.entries(2)], [[0, 0, 0], [], [0, 0, 0], journal.entries(2)])
        found = journal.stopped((lengths[0], 0, lengths[2]))
        check_same(self, [found.counting(), found.order()], [[1, 0, 0], [(0, 0)]])
        check_same(self, contents(found.recovered(), 3), [contents(journal, 3)[0], "", ""])

    def test_the_smallest_possible_one_comes_next(self):
        journal = Journal(3)
        for lane, pairs in ((2, []), (1, [(2, 0)]), (0, [(1, 0)]), (0, []), (2, []), (1, [])):
            journal.enter(lane, pairs, "")
        check_same(self, journal.order(), [(2, 0), (1, 0), (0, 0), (0, 1), (1, 1), (2, 1)])

    def test_durable(self):
        journal = Journal(2)
        journal.enter(0, [], "a")
        journal.enter(1, [(0, 0)], "b")
        journal.sync(1)
        check_same(self, [journal.durable(), journal.disk(1).sure, journal.disk(0).sure], [[0, 0], len(journal.disk(1).content), 0])
        journal.sync(0)
        check_same(self, journal.durable(), [1, 1])
        journal.enter(0, [], "c")
        journal.enter(1, [], "d")
        check_same(self, [journal.sync(), journal.durable()], [None, [2, 2]])
        journal.enter(1, [], "e")
        journal.enter(0, [], "f")
        journal.sync(1, 1, 0)
        check_same(self, journal.durable(), [3, 3])

    def test_stops_at_drawn_lengths(self):
        random = Random(46)
        partial = 0
        for _ in range(120):
            lanes = random.randint(1, 5)
            journal = random_journal(random, lanes, random.randint(0, 12))
            check_reading(self, journal, lanes)
            sure = journal.durable()
            for _ in range(4):
                found = random_stop(random, journal, lanes)
                check_reading(self, found, lanes)
                self.assertTrue(all(one <= other for one, other in zip(sure, found.counting())))
                check_same(self, [found.disk(lane).sure for lane in range(lanes)], [len(text) for text in contents(found, lanes)])
                self.check_recovered(found, lanes)
                partial += found.counting() != [len(found.entries(lane)) for lane in range(lanes)]
        self.assertGreater(partial, 60)

    def check_recovered(self, found, lanes):
        whole = found.recovered()
        check_same(self, [whole.counting(), whole.durable(), whole.order(), whole.cut()], [found.counting(), found.counting(), found.order(), found.cut()])
        for lane in range(lanes):
            number = found.counting()[lane] - found.cut()[lane]
            check_same(self, whole.entries(lane), found.entries(lane)[:number])
            text = "".join(found.disk(lane).content.splitlines(keepends=True)[:number])
            check_same(self, [whole.disk(lane).content, whole.disk(lane).sure], [text, len(text)])
        self.assertEqual(whole.recovered(), whole)

    def test_invalid_lengths(self):
        journal = Journal(2)
        journal.enter(0, [], "a")
        journal.sync(0)
        sure = journal.disk(0).sure
        journal.enter(0, [], "b")
        whole = len(journal.disk(0).content)
        for value in (*[value for value in ODD_VALUES if value != "12"], 0, [whole], [whole, 0, 0], "12", {0: whole, 1: 0}):
            check_error(self, InvalidLength, {"value": value}, journal.stopped, value)
        for value in (*ODD_VALUES, sure - 1, whole + 1, -1):
            check_error(self, InvalidLength, {"value": value}, journal.stopped, [value, None])
        for value in (*ODD_VALUES, 1, -1):
            check_error(self, InvalidLength, {"value": value}, journal.stopped, (sure, value))


class DropTest(unittest.TestCase):
    def journal(self):
        journal = Journal(2)
        for lane, pairs in ((0, []), (1, [(0, 0)]), (0, [(1, 0)]), (1, []), (0, [])):
            journal.enter(lane, pairs, "x")
        return journal

    def test_right_cuts(self):
        for cut in ([0, 0], [1, 0], [1, 1], (2, 1), [2, 2], [3, 1], [3, 2]):
            journal = self.journal()
            journal.sync(0)
            before = self.journal()
            sure = journal.disk(0).sure
            check_same(self, [journal.drop(cut), journal.cut(), journal.counting()], [None, list(cut), [3, 2]])
            for lane in range(2):
                check_same(self, journal.entries(lane), before.entries(lane)[cut[lane]:])
                check_same(self, journal.disk(lane).content, "".join(before.disk(lane).content.splitlines(keepends=True)[cut[lane]:]))
            check_same(self, [journal.disk(0).sure, journal.disk(1).sure], [sure - len("".join(before.disk(0).content.splitlines(True)[:cut[0]])), 0])
            check_same(self, journal.order(), [spot for spot in before.order() if spot[1] >= cut[spot[0]]])
            check_reading(self, journal, 2)

    def test_sure_shrinks_to_0_at_least(self):
        journal = Journal(1)
        journal.enter(0, [], "a")
        journal.sync()
        journal.enter(0, [], "bcd")
        journal.enter(0, [], "e")
        journal.drop([2])
        check_same(self, [journal.disk(0).sure, journal.disk(0).content, journal.durable()], [0, sealed("2 - e"), [2]])

    def test_wrong_cuts(self):
        journal = self.journal()
        before = journal.clone()
        wrong = [*ODD_VALUES, 0, [0], [0, 0, 0], [-1, 0], [4, 0], [0, 3], [0, 1], [2, 0], [3, 0], [True, 0], [1, True], [0, False], [None, 0], ["1", 1], {0: 0, 1: 0}, "00"]
        for value in wrong:
            check_error(self, InvalidCut, {"value": value}, journal.drop, value)
        self.assertEqual(journal, before)
        journal.drop([2, 1])
        for value in ([1, 1], [2, 0], [4, 1], [2, 3]):
            check_error(self, InvalidCut, {"value": value}, journal.drop, value)
        check_same(self, [journal.drop([2, 1]), journal.cut()], [None, [2, 1]])

    def test_only_what_counts_is_dropped(self):
        journal = self.journal()
        found = journal.stopped([0, len(journal.disk(1).content)])
        check_same(self, [found.counting(), len(found.entries(1))], [[0, 0], 2])
        check_error(self, InvalidCut, {"value": [0, 1]}, found.drop, [0, 1])

    def test_going_on_behind_a_cut(self):
        journal = self.journal()
        journal.drop([2, 1])
        check_same(self, [journal.enter(1, [(0, 0), (0, 2), (0, 1)], "late"), journal.enter(0, [(1, 0)], "y")], [2, 3])
        check_same(self, [journal.entries(1)[-1], journal.counting(), journal.order()],
                   [(1, 2, ((0, 0), (0, 1), (0, 2)), "late"), [4, 3], [(0, 2), (0, 3), (1, 1), (1, 2)]])
        found = journal.stopped([0, len(journal.disk(1).content)])
        check_same(self, [found.counting(), found.cut(), found.order(), found.recovered().cut()], [[2, 2], [2, 1], [(1, 1)], [2, 1]])
        check_same(self, found.recovered().enter(0, [(1, 1), (1, 0)], "z"), 2)
        check_reading(self, journal, 2)

    def test_crashes_again_and_again(self):
        random = Random(47)
        dropped = 0
        for _ in range(60):
            lanes = random.randint(1, 4)
            journal = Journal(lanes)
            for _ in range(4):
                journal = random_journal(random, lanes, random.randint(0, 6), journal)
                check_reading(self, journal, lanes)
                if random.random() < 0.5:
                    order = journal.order()
                    cut = journal.cut()
                    for lane, _ in order[:random.randint(0, len(order))]:
                        cut[lane] += 1
                    dropped += sum(cut) - sum(journal.cut())
                    journal.drop(cut)
                    check_reading(self, journal, lanes)
                found = random_stop(random, journal, lanes)
                check_reading(self, found, lanes)
                self.check_pairs_of_cuts(random, found, lanes)
                journal = found.recovered()
        self.assertGreater(dropped, 100)

    def check_pairs_of_cuts(self, random, journal, lanes):
        """Whether a drawn cut is right, as [47] and the interface say."""
        cut = [number + random.randint(0, 2) for number in journal.cut()]
        in_reach = all(one <= most for one, most in zip(cut, journal.counting()))
        gone = [entry for lane in range(lanes) for entry in journal.entries(lane) if entry[1] < cut[lane]]
        if in_reach and all(place < cut[lane] for entry in gone for lane, place in entry[2]):
            other = journal.clone()
            other.drop(cut)
            check_same(self, other.cut(), cut)
        else:
            check_error(self, InvalidCut, {"value": cut}, journal.drop, cut)


class CopiesTest(unittest.TestCase):
    def test_clone_and_equality(self):
        journal = Journal(2)
        journal.enter(0, [], "a")
        other = journal.clone()
        self.assertEqual(other, journal)
        journal.sync(0)
        self.assertNotEqual(other, journal)
        other.sync()
        self.assertEqual(other, journal)
        other.enter(1, [(0, 0)], "b")
        self.assertNotEqual(other, journal)
        check_same(self, [journal.entries(1), journal.counting()], [[], [1, 0]])
        other.drop([1, 1])
        empty = Journal(2)
        check_same(self, [contents(other, 2), other == empty, Journal(2) == empty, Journal(1) == Journal(2)], [["", ""], False, True, False])
        for value in ODD_VALUES:
            self.assertNotEqual(journal, value)

    def test_what_was_found_is_independent(self):
        journal = Journal(2)
        journal.enter(0, [], "a")
        for found in (journal.stopped([len(journal.disk(0).content), 0]), journal.recovered(), journal.clone()):
            found.enter(1, [(0, 0)], "b")
            found.sync()
            check_same(self, [journal.counting(), journal.durable()], [[1, 0], [0, 0]])

    def test_results_are_new(self):
        journal = Journal(2)
        journal.enter(0, [], "a")
        for query in (lambda: journal.entries(0), journal.counting, journal.durable, journal.cut, journal.order):
            expected = query()
            query().append(None)
            check_same(self, query(), expected)
        disk = journal.disk(0)
        disk.append("x")
        disk.sync()
        self.assertNotEqual(disk, journal.disk(0))
        self.assertEqual(journal.disk(1), Disk())


if __name__ == "__main__":
    unittest.main()
