"""[39], [40] Ledgers."""

import unittest
from random import Random

from helpers import ODD_VALUES, check_error, check_same
from test_orders import HISTORY, Reading, random_history, some

from leastlog.errors import InvalidCell, InvalidCount, InvalidHistory
from leastlog.failures import AttemptOver, LaneBusy, Stale, UnknownLane, UnknownRun
from leastlog.ledgers import Ledger

NO_COUNTS = (*ODD_VALUES, 0, -1, 9, 10 ** 20)
NO_CELLS = (*[value for value in ODD_VALUES if value not in ("1", "a")], 1, "A", "till cash", "a" * 33, "a-b", "a\n", ("a",))


def ended(ledger, lane, reads=(), writes=()):
    """Ends a run that reads and then writes these cells; returns its number."""
    attempt = ledger.begin(lane)
    for cell in reads:
        attempt.read(cell)
    for cell in writes:
        attempt.write(cell)
    return attempt.end()


class AttemptTest(unittest.TestCase):
    def test_versions(self):
        ledger = Ledger(lanes=3)
        check_same(self, [ledger.newest("till.cash"), len(ledger), ledger.lanes], [-1, 0, 3])
        early = ledger.begin(0)
        check_same(self, [early.read("till.cash"), early.read("till.box.1"), early.lane, early.place, early.is_over], [-1, -1, 0, 0, False])
        check_same(self, ended(ledger, 1, [], ["till.cash"]), 0)
        late = ledger.begin(lane=1)
        check_same(self, [late.read(cell="till.cash"), late.place, early.read("till.cash"), ledger.newest(cell="till.cash")], [0, 1, -1, 0])
        check_same(self, ended(ledger, 2, [], ["till.cash", "a"]), 1)
        check_same(self, [late.read("till.cash"), late.read("a"), early.read("a"), ledger.newest("a")], [0, -1, -1, 1])

    def test_own_cells_are_not_read(self):
        ledger = Ledger(2)
        attempt = ledger.begin(1)
        check_same(self, [attempt.write(cell="a"), attempt.read("a"), attempt.read("b")], [None, None, -1])
        attempt.write("b")
        check_same(self, [attempt.read("b"), attempt.end(), ledger.history()], [None, 0, [(1, ("b",), ("a", "b"))]])

    def test_own_cells_are_never_stale(self):
        ledger = Ledger(2)
        attempt = ledger.begin(0)
        attempt.write("a")
        attempt.read("a")
        ended(ledger, 1, ["a"], ["a", "b"])
        check_same(self, [attempt.end(), ledger.history()[1]], [1, (0, (), ("a",))])

    def test_end(self):
        ledger = Ledger(2)
        attempt = ledger.begin(0)
        for cell in ("c", "a", "c"):
            attempt.read(cell)
        for cell in ("z", "c", "b", "z"):
            attempt.write(cell)
        check_same(self, [attempt.end(), attempt.is_over, attempt.lane, attempt.place], [0, True, 0, 0])
        check_same(self, [ledger.history(), ledger.spot_of(0), len(ledger)], [[(0, ("a", "c"), ("b", "c", "z"))], (0, 0), 1])
        check_same(self, [ended(ledger, 0), ended(ledger, 1), ended(ledger, 0)], [1, 2, 3])
        check_same(self, [ledger.spot_of(run) for run in range(4)], [(0, 0), (0, 1), (1, 0), (0, 2)])

    def test_stale(self):
        ledger = Ledger(3)
        attempt = ledger.begin(0)
        for cell in ("d", "c", "b", "a"):
            attempt.read(cell)
        ended(ledger, 1, ["a"], ["c"])
        ended(ledger, 1, [], ["b", "e"])
        check_error(self, Stale, {"cell": "b"}, attempt.end)
        check_same(self, [attempt.is_over, len(ledger), ledger.newest("b")], [True, 2, 1])
        check_error(self, AttemptOver, {}, attempt.end)
        again = ledger.begin(0)
        check_same(self, [again.read("b"), again.place, again.end()], [1, 2, 2])

    def test_reading_an_old_version_late_is_stale(self):
        ledger = Ledger(2)
        attempt = ledger.begin(0)
        ended(ledger, 1, [], ["a"])
        check_same(self, attempt.read("a"), -1)
        check_error(self, Stale, {"cell": "a"}, attempt.end)

    def test_other_cells_do_not_matter(self):
        ledger = Ledger(2)
        attempt = ledger.begin(0)
        attempt.read("a")
        attempt.write("b")
        ended(ledger, 1, ["a", "b"], ["b", "c"])
        check_same(self, attempt.end(), 1)

    def test_drop(self):
        ledger = Ledger(1)
        attempt = ledger.begin(0)
        attempt.write("a")
        check_error(self, LaneBusy, {"lane_number": 0}, ledger.begin, 0)
        check_same(self, [attempt.drop(), attempt.is_over, len(ledger), ledger.newest("a")], [None, True, 0, -1])
        other = ledger.begin(0)
        for call in (attempt.end, attempt.drop, lambda: attempt.read("a"), lambda: attempt.write("a"), lambda: attempt.read(None),
                     lambda: attempt.write(None)):
            check_error(self, AttemptOver, {}, call)
        check_same(self, [other.is_over, other.end()], [False, 0])

    def test_errors(self):
        ledger = Ledger(2)
        attempt = ledger.begin(1)
        for value in NO_CELLS:
            check_error(self, InvalidCell, {"value": value}, attempt.read, value)
            check_error(self, InvalidCell, {"value": value}, attempt.write, value)
            check_error(self, InvalidCell, {"value": value}, ledger.newest, value)
        for value in (*ODD_VALUES, -1, 2, 10 ** 20):
            check_error(self, UnknownLane, {"value": value}, ledger.begin, value)
        check_error(self, LaneBusy, {"lane_number": 1}, ledger.begin, 1)
        check_same(self, [attempt.end(), ledger.history()], [0, [(1, (), ())]])


class LedgerTest(unittest.TestCase):
    def test_numbers_of_lanes(self):
        for value in NO_COUNTS:
            check_error(self, InvalidCount, {"value": value}, Ledger, value)
            check_error(self, InvalidCount, {"value": value}, Ledger.replayed, value, None)
        check_same(self, [Ledger(lanes).lanes for lanes in range(1, 9)], list(range(1, 9)))

    def test_replayed(self):
        ledger = Ledger.replayed(lanes=3, history=HISTORY)
        check_same(self, [ledger.history(), len(ledger), ledger.newest("b"), ledger.newest("d")], [HISTORY, 6, 5, 2])
        check_same(self, [Ledger.replayed(8, [(7, (), ())]).history(), Ledger.replayed(3, tuple(HISTORY)) == ledger], [[(7, (), ())], True])
        check_same(self, Ledger.replayed(1, ()) == Ledger(1), True)

    def test_invalid_histories(self):
        for value in (*[value for value in ODD_VALUES if not isinstance(value, (list, tuple))], 0):
            check_error(self, InvalidHistory, {"position": None}, Ledger.replayed, 2, value)
        for value in (*ODD_VALUES, 0, (0, ()), [0, (), ()], (2, (), ()), (3, (), ()), (-1, (), ()), (True, (), ()), (0, ("b", "a"), ()),
                      (0, (), ["a"]), (0, (), ("a", "a")), (0, ("",), ()), (0, (), (1,))):
            for position in range(2):
                history = [(1, (), ("a",))] * position + [value, None]
                check_error(self, InvalidHistory, {"position": position}, Ledger.replayed, 2, history)

    def test_pairs_as_the_document_says(self):
        random = Random(40)
        for _ in range(80):
            history = random_history(random, random.randint(0, 10), 4, 3)
            ledger = Ledger.replayed(4, history)
            reading = Reading(history)
            check_same(self, [ledger.pairs(run) for run in range(len(history))], reading.named)
            places = [sum(one[0] == footprint[0] for one in history[:run]) for run, footprint in enumerate(history)]
            check_same(self, [ledger.spot_of(run) for run in range(len(history))], [(one[0], at) for one, at in zip(history, places)])

    def test_mixtures_of_attempts(self):
        """What attempts read, and whether they are stale, by the versions of [39]."""
        random = Random(41)
        stale = 0
        for _ in range(60):
            ledger, history, attempts = Ledger(4), [], {}
            for _ in range(30):
                lane = random.randrange(4)
                if lane not in attempts:
                    attempts[lane] = (ledger.begin(lane), len(history), set(), set())
                    continue
                attempt, place, reads, writes = attempts[lane]
                if random.random() < 0.6:
                    self.access(random, attempt, Reading(history), place, reads, writes)
                    continue
                del attempts[lane]
                reading = Reading(history)
                wrong = [cell for cell in sorted(reads) if reading.version(range(len(history)), len(history), cell) >= place]
                if wrong:
                    stale += 1
                    check_error(self, Stale, {"cell": wrong[0]}, attempt.end)
                else:
                    check_same(self, attempt.end(), len(history))
                    history.append((lane, tuple(sorted(reads)), tuple(sorted(writes))))
                check_same(self, ledger.history(), history)
        self.assertGreater(stale, 20)

    def access(self, random, attempt, reading, place, reads, writes):
        for cell in some(random, ["a", "b", "c"]):
            if random.random() < 0.5:
                attempt.write(cell)
                writes.add(cell)
            elif cell in writes:
                self.assertIsNone(attempt.read(cell))
            else:
                check_same(self, attempt.read(cell), reading.version(range(place), place, cell))
                reads.add(cell)

    def test_unknown_runs(self):
        ledger = Ledger.replayed(3, HISTORY)
        for value in (*ODD_VALUES, -1, 6, 10 ** 20):
            check_error(self, UnknownRun, {"value": value}, ledger.pairs, value)
            check_error(self, UnknownRun, {"value": value}, ledger.spot_of, value)

    def test_results_are_new(self):
        ledger = Ledger.replayed(3, HISTORY)
        for query in (ledger.history, lambda: ledger.pairs(3)):
            query().append(None)
            self.assertNotIn(None, query())
        given = list(HISTORY)
        other = Ledger.replayed(3, given)
        given.clear()
        self.assertEqual(other, ledger)

    def test_clone_and_equality(self):
        ledger = Ledger.replayed(3, HISTORY)
        attempt = ledger.begin(0)
        other = ledger.clone()
        self.assertEqual(other, ledger)
        check_same(self, [ended(other, 0, [], ["b"]), len(ledger), ledger.newest("b"), len(other)], [6, 6, 5, 7])
        self.assertNotEqual(other, ledger)
        attempt.read("b")
        check_same(self, [attempt.end(), ledger == other], [6, False])
        self.assertNotEqual(Ledger(1), Ledger(2))
        self.assertEqual(Ledger(2), Ledger(2))
        for value in (*ODD_VALUES, 0, [(0, (), ())]):
            self.assertNotEqual(Ledger(1), value)


if __name__ == "__main__":
    unittest.main()
