"""[39], [41] to [43] Orders of runs."""

import unittest
from itertools import permutations
from random import Random

from helpers import ODD_VALUES, check_error, check_same

from leastlog.errors import InvalidHistory, InvalidOrder
from leastlog.failures import NotNamed, UnknownRun
from leastlog.orders import difference, exchanged, keeps, named_pairs


def random_history(random, runs, lanes, cells):
    """A history with so many runs, lanes and cells at most."""
    names = [f"till.c{at}" for at in range(cells)]
    return [(random.randrange(lanes), some(random, names), some(random, names)) for _ in range(runs)]


def some(random, names):
    return tuple(sorted(random.sample(names, random.choice((0, 0, 1, 1, 2)[:len(names) + 2]))))


class Reading:
    """A history as the document reads it."""

    def __init__(self, history):
        self.history = history
        runs = range(len(history))
        self.named, self.ahead = [], set()
        for run in runs:
            due = [other for other in range(run) if self.is_due(other, run)]
            last = self.previous(run)
            self.named.append([
                other for other in due if other != last and not (last is not None and (other, last) in self.ahead)
                and not any((other, one) in self.ahead for one in due)])
            steps = [*self.named[run], *([] if last is None else [last])]
            for step in steps:
                self.ahead.add((step, run))
                self.ahead.update((other, run) for other in range(run) if (other, step) in self.ahead)

    def previous(self, run):
        same = [other for other in range(run) if self.history[other][0] == self.history[run][0]]
        return same[-1] if same else None

    def version(self, order, at, cell):
        """The version of a cell ahead of a position of an order."""
        writers = [run for run in order[:at] if cell in self.history[run][2]]
        return writers[-1] if writers else -1

    def is_due(self, one, run):
        _, reads, writes = self.history[run]
        _, first_reads, first_writes = self.history[one]
        for cell in {*reads, *writes, *first_reads, *first_writes}:
            between = any(cell in self.history[other][2] for other in range(one + 1, run))
            if cell in reads and self.version(range(len(self.history)), run, cell) == one:
                return True
            if cell in writes and not between and (cell in first_writes or cell in first_reads):
                return True
        return False

    def keeps(self, order):
        at = {run: position for position, run in enumerate(order)}
        steps = [(other, run) for run in at for other in self.named[run]]
        steps += [(self.previous(run), run) for run in at if self.previous(run) is not None]
        return all(at[one] < at[run] for one, run in steps)

    def exchanged(self, run, other):
        between = range(other + 1, run)
        return [*range(other), *[one for one in between if (other, one) not in self.ahead], run, other,
                *[one for one in between if (other, one) in self.ahead]]

    def difference(self, order):
        ended = list(range(len(order)))
        for run in ended:
            for cell in self.history[run][1]:
                version = self.version(order, order.index(run), cell)
                if version != self.version(ended, run, cell):
                    return "read", run, cell, version
        cells = {cell for run in ended for cell in self.history[run][2]}
        for cell in sorted(cells):
            version = self.version(order, len(order), cell)
            if version != self.version(ended, len(order), cell):
                return "last", cell, version
        return None


HISTORY = [
    (0, ("a", "b"), ("b",)),
    (1, ("b",), ("a",)),
    (0, (), ("c", "d")),
    (2, ("a", "c"), ()),
    (1, (), ()),
    (0, ("c",), ("a", "b")),
]


class NamedPairsTest(unittest.TestCase):
    def test_known_cases(self):
        check_same(self, named_pairs(history=HISTORY), [[], [0], [], [1, 2], [], [3]])
        check_same(self, named_pairs([]), [])
        check_same(self, named_pairs(((3, (), ("a",)), (3, ("a",), ()), (4, ("a",), ("a",)))), [[], [], [1]])

    def test_each_reason(self):
        cell = ("a",)
        check_same(self, named_pairs([(0, (), cell), (1, cell, ())]), [[], [0]])
        check_same(self, named_pairs([(0, (), cell), (1, (), cell)]), [[], [0]])
        check_same(self, named_pairs([(0, cell, ()), (1, (), cell)]), [[], [0]])
        check_same(self, named_pairs([(0, cell, ()), (1, cell, ())]), [[], []])
        check_same(self, named_pairs([(0, cell, cell), (0, cell, cell)]), [[], []])
        # Only the last run that writes, and only the first one behind a read.
        check_same(self, named_pairs([(0, (), ("a",)), (1, (), ("a",)), (2, ("a",), ())]), [[], [0], [1]])
        check_same(self, named_pairs([(0, ("a",), ()), (1, (), ("a",)), (2, (), ("a",))]), [[], [0], [1]])
        check_same(self, named_pairs([(0, ("a",), ()), (1, ("a",), ()), (2, (), ("a",)), (3, ("a",), ())]), [[], [], [0, 1], [2]])

    def test_chains(self):
        # Run 0 is ahead of run 1, which the lane of run 2 has behind it.
        check_same(self, named_pairs([(0, (), ("a", "b")), (1, ("a",), ()), (1, ("b",), ())]), [[], [0], []])
        # Run 0 is ahead of run 1, with which the pair is due.
        check_same(self, named_pairs([(0, (), ("a", "b")), (1, ("a",), ("c",)), (2, ("b", "c"), ())]), [[], [0], [1]])
        # The chain may go along a lane.
        check_same(self, named_pairs([(0, (), ("a",)), (0, (), ()), (0, (), ("b",)), (1, ("a", "b"), ())]), [[], [], [], [2]])

    def test_returned_values_are_apart(self):
        history = list(HISTORY)
        found = named_pairs(history)
        found[1].append(9)
        check_same(self, [named_pairs(history)[1], history], [[0], HISTORY])

    def test_as_the_document_says(self):
        random = Random(42)
        for _ in range(250):
            history = random_history(random, random.randint(0, 14), random.randint(1, 4), random.randint(1, 4))
            self.assertEqual(named_pairs(history), Reading(history).named)

    def test_long_histories(self):
        random = Random(420)
        history = random_history(random, 300, 8, 12)
        order = list(range(300))
        self.assertTrue(keeps(history, order))
        self.assertIsNone(difference(history, order))


class KeepsTest(unittest.TestCase):
    def test_known_cases(self):
        self.assertIs(keeps(history=HISTORY, order=[0, 1, 2, 3, 4, 5]), True)
        for order, right in (((0, 2, 1, 3, 5, 4), True), ([0, 2, 1, 4, 3, 5], True), ([1, 0, 2, 3, 4, 5], False), ([2, 0, 1, 3, 4, 5], False),
                             ([0, 1, 3, 2, 4, 5], False), ([0, 1, 2, 5, 3, 4], False), ([0, 1, 2, 3, 4], False), ([0, 1, 2, 3, 4, 5, 6], False)):
            self.assertIs(keeps(HISTORY, order), right, order)

    def test_any_value(self):
        for value in (*ODD_VALUES, 0, "012345", [0, 1, 2, 3, 4, 4], [0, True, 2, 3, 4, 5], [False, 1, 2, 3, 4, 5], [0, 1, 2, 3, 4, None],
                      [0, 1, 2, 3, 4, "5"], [-1, 0, 1, 2, 3, 4], [0, 1, 2, 3, 4, [5]], {0: 1}, [0, 1, 2, 3, 4, 5, 5], [1, 2, 3, 4, 5, 6],
                      dict.fromkeys(range(6))):
            self.assertIs(keeps(HISTORY, value), False, value)
        self.assertIs(keeps([], []), True)
        self.assertIs(keeps([], ()), True)
        self.assertIs(keeps([], None), False)

    def test_orders_that_keep_it_keep_everything(self):
        random = Random(43)
        kept = 0
        for _ in range(60):
            history = random_history(random, 5, 3, 3)
            reading = Reading(history)
            for order in permutations(range(5)):
                right = reading.keeps(order)
                self.assertIs(keeps(history, order), right)
                if right:
                    kept += 1
                    self.assertIsNone(difference(history, order))
        self.assertGreater(kept, 100)


class ExchangedTest(unittest.TestCase):
    def test_known_cases(self):
        check_same(self, exchanged(history=HISTORY, run=5, other=3), [0, 1, 2, 4, 5, 3])
        check_same(self, [exchanged(HISTORY, 1, 0), exchanged(HISTORY, 3, 1), exchanged(HISTORY, 3, 2)], [[1, 0], [0, 2, 3, 1], [0, 1, 3, 2]])
        history = [(0, (), ("a", "z")), (1, ("z",), ()), (2, (), ()), (1, (), ()), (3, ("a",), ())]
        check_same(self, [named_pairs(history)[4], exchanged(history, 4, 0)], [[0], [2, 4, 0, 1, 3]])

    def test_only_this_pair(self):
        random = Random(430)
        pairs = 0
        for _ in range(150):
            history = random_history(random, random.randint(2, 12), random.randint(2, 4), random.randint(1, 4))
            reading = Reading(history)
            for run, named in enumerate(reading.named):
                for other in named:
                    order = exchanged(history, run, other)
                    self.assertEqual(order, reading.exchanged(run, other))
                    self.assertEqual(sorted(order), list(range(run + 1)))
                    self.assertIsNotNone(difference(history, order))
                    at = {one: position for position, one in enumerate(order)}
                    steps = [(one, last) for last in order for one in reading.named[last] if (one, last) != (other, run)]
                    steps += [(reading.previous(last), last) for last in order if reading.previous(last) is not None]
                    self.assertTrue(all(at[one] < at[last] for one, last in steps))
                    pairs += 1
        self.assertGreater(pairs, 200)

    def test_errors(self):
        for value in (*ODD_VALUES, -1, 6, 10 ** 20, "0"):
            check_error(self, UnknownRun, {"value": value}, exchanged, HISTORY, value, None)
            check_error(self, UnknownRun, {"value": value}, exchanged, HISTORY, 5, value)
        named = named_pairs(HISTORY)
        for run in range(6):
            for other in range(6):
                if other not in named[run]:
                    check_error(self, NotNamed, {"number": run, "other": other}, exchanged, HISTORY, run, other)


class DifferenceTest(unittest.TestCase):
    def test_known_cases(self):
        check_same(self, difference(history=HISTORY, order=[1, 0]), ("read", 0, "a", 1))
        check_same(self, difference(HISTORY, [0, 2, 3, 1]), ("read", 3, "a", -1))
        check_same(self, difference(HISTORY, (0, 2, 1)), None)
        check_same(self, difference(HISTORY, []), None)
        check_same(self, difference(HISTORY, [0, 1, 2, 4, 5, 3]), ("read", 3, "a", 5))
        writes = [(0, (), ("b", "a")[::-1]), (1, (), ("b",)), (2, (), ("a", "b"))]
        check_same(self, difference(writes, [1, 0]), ("last", "b", 0))
        check_same(self, difference(writes, [2, 0, 1]), ("last", "a", 0))
        check_same(self, difference(writes, [0, 2, 1]), ("last", "b", 1))

    def test_reads_ahead_of_last_versions_and_by_numbers(self):
        history = [(0, ("b", "c"), ("a",)), (1, ("a",), ("b", "c"))]
        check_same(self, difference(history, [1, 0]), ("read", 0, "b", 1))
        history = [(0, (), ("a",)), (1, ("a",), ()), (2, ("a",), ()), (3, (), ("a",))]
        check_same(self, difference(history, [2, 3, 1, 0]), ("read", 1, "a", 3))

    def test_as_the_document_says(self):
        random = Random(431)
        found = {"read": 0, "last": 0, None: 0}
        for _ in range(1000):
            history = random_history(random, random.randint(0, 8), 8, random.randint(1, 3))
            if random.random() < 0.4:
                history = [(lane, (), writes) for lane, _, writes in history]
            order = list(range(random.randint(0, len(history))))
            random.shuffle(order)
            expected = Reading(history).difference(order)
            check_same(self, difference(history, tuple(order)), expected)
            found[expected and expected[0]] += 1
        self.assertGreater(min(found.values()), 30)

    def test_invalid_orders(self):
        for value in (*[value for value in ODD_VALUES if value not in ([], ())], 0, 6, [1], [0, 0], [0, 2], [True, 0], [0, True], [False], [None],
                      [0, 1, 2, 3, 4, 5, 6], [-1, 0], ["0"], [[0]], {0: 0}, [1, 2]):
            check_error(self, InvalidOrder, {"value": value}, difference, HISTORY, value)


class HistoryTest(unittest.TestCase):
    FUNCTIONS = (named_pairs, lambda history: keeps(history, None), lambda history: exchanged(history, None, None),
                 lambda history: difference(history, None))

    def test_no_lists(self):
        for value in (*[value for value in ODD_VALUES if not isinstance(value, (list, tuple))], 0, {0: HISTORY[0]}):
            for function in self.FUNCTIONS:
                check_error(self, InvalidHistory, {"position": None}, function, value)

    def test_no_footprints(self):
        long = "a" * 33
        wrong = [*ODD_VALUES, 0, [0, (), ()], (0, ()), (0, (), (), ()), (-1, (), ()), (8, (), ()), (True, (), ()), (None, (), ()), ("0", (), ()),
                 (0, [], ()), (0, (), []), (0, "a", ()), (0, (), None), (0, ("b", "a"), ()), (0, (), ("a", "a")), (0, (1,), ()), (0, ("",), ()),
                 (0, ("A",), ()), (0, ("a b",), ()), (0, (long,), ()), (0, (), (long,)), (0, (), ("a", None)), (0, (("a",),), ()), (0, (), ("a-b",)),
                 (0, ("a", "b", "a"), ()), (0, ("a\n",), ())]
        for value in wrong:
            for function in self.FUNCTIONS:
                check_error(self, InvalidHistory, {"position": 2}, function, [HISTORY[0], HISTORY[1], value, None])
        for value in ((7, ("a" * 32,), ()), (0, ("0", "1.2", "a.0.z", "b"), ("9",)), (0, (".", "..", "0"), ())):
            self.assertEqual(named_pairs((value,)), [[]])


if __name__ == "__main__":
    unittest.main()
