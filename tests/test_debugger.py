"""[56] to [59] Debuggers."""

import unittest
from random import Random

from archivecases import Told, random_stories, run_history
from helpers import ODD_VALUES, check_error, check_same
from test_archives import PLACE, SHOP, told
from test_engine import PROGRAM, VERSIONS

from leastlog.amounts import Amount
from leastlog.archives import Archive
from leastlog.debugger import Debugger
from leastlog.engine import Engine
from leastlog.errors import InvalidArguments
from leastlog.failures import NoSpot, NotAmount, NotArchived, NotMine, NotNamed, UnknownKept, UnknownKey, UnknownProcedure, UnknownRun, UnknownStop, UnknownVariable
from leastlog.forms import Form
from leastlog.moduletexts import read_module
from leastlog.orders import difference, exchanged
from leastlog.programs import Program
from leastlog.runs import Run
from leastlog.systems import combination

NO_KEYS = (*ODD_VALUES, 0, ("archive",), ("archive", 0, 0), ("archive", -1), ("archive", True), ("archive", False), ("archive", "0"), ("archive", None), ("live", 1),
           ("ended", 0), ("Archive", 0), ["archive", 0], (0, "archive"), ("archive", 10 ** 20), (None, 0), ([], 0))


def scene():
    """A debugger of two runs in the archive with a replacement between, two that ended, and runs under way in lanes 0 and 2."""
    found = Told(PLACE, {"shop.tin": Amount(2)})
    engine = found.engine
    engine.execute(0, "shop.take", [Amount(3)])
    engine.replace(1, read_module(SHOP.replace("put cash = x\n", "put cash = (x + 1/1)\n")))
    engine.execute(1, "shop.swap", [Amount(9), 2, True])
    found.let_go()
    engine.execute(2, "shop.take", [Amount(5)])
    engine.execute(1, "shop.both", [Amount(7), Amount(8)])
    engine.begin(2, "shop.swap", [Amount(30), 4, True])
    engine.begin(0, "shop.join", [Amount(1)])
    engine.step(2)
    engine.step(2)
    return Debugger(engine, found.archive), found


KEYS = [("archive", 0), ("archive", 1), ("archive", 2), ("ended", 3), ("ended", 4), ("live", 0), ("live", 2)]
COUNTS = [2, 0, 5, 2, 3, 1, 3]
SPOTS = [(key, stop) for key, count in zip(KEYS, COUNTS) for stop in range(count)]


class StopsTest(unittest.TestCase):
    def test_keys_and_stops(self):
        debugger, found = scene()
        self.assertIs(debugger.engine, found.engine)
        self.assertIs(debugger.archive, found.archive)
        check_same(self, [debugger.run_keys(), [debugger.stops_of(key=key) for key in KEYS], list(debugger.spots())], [KEYS, COUNTS, SPOTS])

    def test_at(self):
        debugger, _ = scene()
        check_same(self, debugger.at(key=("archive", 0), stop=1), ((("shop.take", "1", ()),), ({"x": Amount(3)},)))
        check_same(self, debugger.at(("archive", 2), 2), ((("shop.swap", "0.a.1", ()),), ({"x": Amount(9), "n": 2, "good": True, "held": Amount(3)},)))
        check_same(self, debugger.at(("ended", 3), 0), ((("shop.take", "0", ()),), ({"x": Amount(5)},)))
        check_same(self, debugger.at(("live", 2), 2), ((("shop.swap", "0.a.1", ()),), ({"x": Amount(30), "n": 4, "good": True, "held": Amount(15)},)))
        check_same(self, debugger.at(("live", 0), 0), ((("shop.join", "0", ()),), ({"x": Amount(1)},)))
        debugger.at(("archive", 0), 0)[1][0]["x"] = None
        check_same(self, debugger.at(("archive", 0), 0)[1], ({"x": Amount(3)},))

    def test_as_they_are_when_asked(self):
        debugger, found = scene()
        found.engine.step(0)
        found.engine.finish(2)
        check_same(self, [debugger.stops_of(("live", 0)), debugger.stops_of(("live", 2))], [2, 5])
        found.engine.end(2)
        check_same(self, debugger.run_keys()[5:], [("ended", 5), ("live", 0)])
        found.let_go()
        check_same(self, debugger.run_keys(), [*[("archive", run) for run in range(6)], ("live", 0)])
        check_same(self, debugger.at(("archive", 5), 2)[1][0]["held"], Amount(15))

    def test_spots_are_those_of_the_first_request(self):
        debugger, found = scene()
        spots = debugger.spots()
        found.engine.drop(2)
        self.assertEqual(next(spots), (("archive", 0), 0))
        found.engine.drop(0)
        check_same(self, list(spots), SPOTS[1:-3])

    def test_errors(self):
        debugger, _ = scene()
        for value in NO_KEYS:
            for call in (debugger.stops_of, lambda key: debugger.at(key, None), lambda key: debugger.told(key, None, None, None), lambda key: debugger.go(key, None)):
                check_error(self, UnknownKey, {"value": value}, call, value)
        for key, count in zip(KEYS, COUNTS):
            for value in (*ODD_VALUES, -1, count, 10 ** 20):
                for call in (debugger.at, debugger.go):
                    check_error(self, UnknownStop, {"stop_number": value}, call, key, value)
        check_same(self, debugger.cursor(), None)


class ToldTest(unittest.TestCase):
    def test_known(self):
        debugger, found = scene()
        constant, kept, cells = debugger.told(key=("archive", 0), stop=0, frame=0, name="x")
        self.check_told(found.archive, (constant, kept, cells), Form.symbol("0.0"))
        self.assertEqual(list(cells), ["shop.cash", "shop.tin"])
        constant, kept, cells = debugger.told(("archive", 2), 2, 0, "held")
        self.check_told(found.archive, (constant, kept, cells), Form.symbol("0.0"))

    def check_told(self, archive, rows, form):
        constant, kept, cells = rows
        self.assertEqual([isinstance(one, Amount) for one in (constant, *kept, *cells.values())], [True] * (1 + len(kept) + len(cells)))
        check_same(self, [len(kept), list(cells)], [len(archive.kept()), list(archive.cells())])
        total = constant
        for weight, (_, amount) in zip(kept, archive.kept()):
            total = total + weight * amount
        for cell, weight in cells.items():
            total = total + weight * archive.cells()[cell]
        self.assertEqual(total, form.value_at(archive.point()))
        rest = form - constant
        for weight, one in zip(kept, archive.kept_forms()):
            rest = rest - one * weight
        for cell, weight in cells.items():
            rest = rest - archive.cell_forms()[cell] * weight
        self.assertEqual(combination(rest, [], archive.region().flat())[0], Amount(0))

    def test_errors_in_sequence(self):
        debugger, _ = scene()
        for key in KEYS[3:]:
            check_error(self, NotArchived, {"key": key}, debugger.told, key, None, None, None)
        for value in (*ODD_VALUES, -1, 5, 10 ** 20):
            check_error(self, UnknownStop, {"stop_number": value}, debugger.told, ("archive", 2), value, None, None)
            check_error(self, UnknownStop, {"stop_number": value}, debugger.told, ("archive", 1), value, None, None)
        for value in (*ODD_VALUES, -1, 1, 10 ** 20):
            check_error(self, UnknownVariable, {"frame": value, "name": None}, debugger.told, ("archive", 2), 0, value, None)
        for value in (*ODD_VALUES, -1, 1, 10 ** 20):
            check_error(self, UnknownVariable, {"frame": value, "name": "x"}, debugger.told, ("archive", 2), 0, value, "x")
        for value in (*ODD_VALUES, 0, "held", "shop.cash", "z"):
            check_error(self, UnknownVariable, {"frame": 0, "name": value}, debugger.told, ("archive", 2), 0, 0, value)
        for name in ("n", "good"):
            check_error(self, NotAmount, {"name": name}, debugger.told, ("archive", 2), 0, 0, name)

    def test_random_stories(self):
        random = Random(57)
        checked = 0
        for found in [*random_stories(random, 57, 14), *random_stories(random, 0, 0, versions=VERSIONS, pool=[PROGRAM] * 6)]:
            debugger = Debugger(found.engine, found.archive)
            self.check_spots(found, debugger)
            for key in debugger.run_keys():
                if key[0] == "archive" and random.random() < 0.4:
                    checked += self.check_run(random, found, debugger, key)
        self.assertGreater(checked, 50)

    def check_run(self, random, found, debugger, key):
        checked = 0
        stops = [event for event in found.archive.form_trace_of(key[1]) if event[0] == "stop"]
        check_same(self, debugger.stops_of(key), len(stops))
        for stop, (_, place, variables) in enumerate(stops):
            check_same(self, debugger.at(key, stop)[0], place)
            for frame, part in enumerate(variables):
                for name, value in part.items():
                    if not isinstance(value, Form):
                        check_error(self, NotAmount, {"name": name}, debugger.told, key, stop, frame, name)
                    elif random.random() < 0.2:
                        self.check_told(found.archive, debugger.told(key, stop, frame, name), value)
                        checked += 1
        return checked

    def check_spots(self, found, debugger):
        """[4] TRUE STOPS: what is shown is what the plain runs have."""
        expected = []
        for run, record in enumerate(found.records):
            if record[0] == "run":
                trace = Run.traced(found.before[run][0], record[1], record[2], found.before[run][1])
                expected += [((("archive", run), stop), event[1:]) for stop, event in enumerate(one for one in trace if one[0] == "stop")]
        for number in found.engine.run_numbers():
            record = found.engine.record_of(number)
            if record[0] == "run":
                trace = Run.traced(found.engine.program_at(number), record[1], record[2], found.engine.cells_at(number))
                expected += [((("ended", number), stop), event[1:]) for stop, event in enumerate(one for one in trace if one[0] == "stop")]
        for lane in range(found.engine.lanes):
            if found.engine.is_busy(lane):
                trace = found.engine.run_of(lane).trace()
                expected += [((("live", lane), stop), event[1:]) for stop, event in enumerate(one for one in trace if one[0] == "stop")]
        check_same(self, list(debugger.spots()), [spot for spot, _ in expected])
        for spot, shown in expected[::3]:
            check_same(self, debugger.at(*spot), shown)


class CursorTest(unittest.TestCase):
    def test_forward_and_back(self):
        debugger, _ = scene()
        check_same(self, debugger.cursor(), None)
        for spot in SPOTS:
            check_same(self, [debugger.forward(), debugger.cursor()], [spot, spot])
        check_error(self, NoSpot, {}, debugger.forward)
        check_same(self, debugger.cursor(), SPOTS[-1])
        for spot in reversed(SPOTS[:-1]):
            check_same(self, [debugger.back(), debugger.cursor()], [spot, spot])
        check_error(self, NoSpot, {}, debugger.back)
        check_same(self, debugger.cursor(), SPOTS[0])

    def test_back_from_nowhere(self):
        debugger, _ = scene()
        check_same(self, [debugger.back(), debugger.cursor()], [SPOTS[-1], SPOTS[-1]])

    def test_go(self):
        debugger, _ = scene()
        check_same(self, [debugger.go(key=("ended", 4), stop=1), debugger.cursor(), debugger.forward(), debugger.forward()],
                   [(("ended", 4), 1), (("ended", 4), 1), (("ended", 4), 2), (("live", 0), 0)])
        check_error(self, UnknownStop, {"stop_number": 3}, debugger.go, ("ended", 4), 3)
        check_error(self, UnknownKey, {"value": ("live", 1)}, debugger.go, ("live", 1), 0)
        check_same(self, debugger.cursor(), (("live", 0), 0))

    def test_no_spots(self):
        debugger = Debugger(Engine(PLACE), Archive(PLACE))
        check_same(self, [debugger.run_keys(), list(debugger.spots())], [[], []])
        check_error(self, NoSpot, {}, debugger.forward)
        check_error(self, NoSpot, {}, debugger.back)
        debugger.engine.replace(0, read_module("module bank\n"))
        check_same(self, [debugger.run_keys(), debugger.stops_of(("ended", 0))], [[("ended", 0)], 0])
        check_error(self, NoSpot, {}, debugger.forward)

    def test_a_spot_that_went_away(self):
        debugger, found = scene()
        debugger.go(("live", 2), 2)
        found.engine.drop(2)
        check_same(self, [debugger.cursor(), debugger.forward()], [None, SPOTS[0]])
        debugger.go(("ended", 3), 1)
        found.let_go()
        check_same(self, [debugger.cursor(), debugger.back()], [None, (("live", 0), 0)])

    def test_a_spot_that_comes_back(self):
        debugger, found = scene()
        debugger.go(("live", 2), 2)
        found.let_go()
        check_same(self, debugger.cursor(), (("live", 2), 2))
        found.engine.drop(2)
        found.engine.begin(2, "shop.swap", [Amount(30), 4, True])
        check_same(self, debugger.cursor(), None)
        found.engine.step(2)
        found.engine.step(2)
        check_same(self, debugger.cursor(), (("live", 2), 2))

    def test_a_run_that_is_begun_again(self):
        debugger, found = scene()
        debugger.go(("live", 2), 2)
        found.engine.execute(1, "shop.take", [Amount(1)])
        found.engine.finish(2)
        found.engine.end(2)
        check_same(self, [found.engine.fate_of(2), debugger.cursor()], ["version", None])
        found.engine.step(2)
        check_same(self, [debugger.stops_of(("live", 2)), debugger.cursor()], [2, None])
        found.engine.step(2)
        check_same(self, [debugger.stops_of(("live", 2)), debugger.cursor()], [3, (("live", 2), 2)])

    def test_replacements_have_no_stops(self):
        debugger, found = scene()
        found.engine.replace(1, found.engine.program.module_named("shop"))
        check_same(self, debugger.run_keys()[5:], [("ended", 5), ("live", 0), ("live", 2)])
        for key in (("archive", 1), ("ended", 5)):
            check_same(self, debugger.stops_of(key), 0)
            check_error(self, UnknownStop, {"stop_number": 0}, debugger.at, key, 0)

    def test_debuggers_are_independent(self):
        debugger, found = scene()
        other = Debugger(found.engine, found.archive)
        debugger.forward()
        check_same(self, other.cursor(), None)


class WhyKeptTest(unittest.TestCase):
    def test_known(self):
        found = told(("join", [3]), ("join", [4]), ("take", [5]))
        debugger = Debugger(found.engine, found.archive)
        for index in range(len(found.archive.kept())):
            one, other, spot = debugger.why_kept(index=index)
            check_same(self, self.first_difference(found, one, other), spot)
        for value in (*ODD_VALUES, -1, len(found.archive.kept()), 10 ** 20):
            check_error(self, UnknownKept, {"value": value}, debugger.why_kept, value)

    def first_difference(self, found, one, other):
        traces = []
        for history in (one, other):
            _, stores = run_history(found, history)
            traces.append([Run.traced(found.archive.program_before(run), record[1], history[run], stores[run]) if record[0] == "run" else []
                           for run, record in enumerate(found.archive.records())])
        for run, (trace, by) in enumerate(zip(*traces)):
            stops = [[event for event in part if event[0] == "stop"] for part in (trace, by)]
            for stop, (event, against) in enumerate(zip(*stops)):
                for frame, part in enumerate(event[2]):
                    for name in part:
                        if part[name] != against[2][frame][name]:
                            return ("archive", run), stop, frame, name
        return None

    def test_random_stories(self):
        random = Random(58)
        checked = 0
        for found in [*random_stories(random, 58, 16), *random_stories(random, 0, 0, versions=VERSIONS, pool=[PROGRAM] * 6)]:
            debugger = Debugger(found.engine, found.archive)
            for index in range(len(found.archive.kept())):
                one, other, spot = debugger.why_kept(index)
                check_same(self, spot, self.first_difference(found, one, other))
                (paths, stores), (others, other_stores) = run_history(found, one), run_history(found, other)
                check_same(self, [paths, stores[-1]], [others, other_stores[-1]])
                checked += 1
        self.assertGreater(checked, 20)


class WhyPairTest(unittest.TestCase):
    def test_pairs(self):
        engine = Engine(PLACE, lanes=3)
        for lane, text, arguments in ((0, "take", [3]), (1, "join", [4]), (2, "both", [1, 2]), (0, "join", [5]), (1, "take", [8])):
            engine.execute(lane, f"shop.{text}", [Amount(one) for one in arguments])
        debugger = Debugger(engine, Archive(PLACE))
        check_same(self, debugger.why_pair(number=1, other=0), ([1, 0], ("read", 1, "shop.cash", -1)))
        history = engine.ledger().history()
        for number in engine.run_numbers():
            for other in engine.run_numbers():
                if other in engine.pairs(number):
                    order = exchanged(history, number, other)
                    check_same(self, debugger.why_pair(number, other), (order, difference(history, order)))
                    self.assertIsNotNone(debugger.why_pair(number, other)[1])
                else:
                    check_error(self, NotNamed, {"number": number, "other": other}, debugger.why_pair, number, other)
        for value in (*ODD_VALUES, -1, 5, 10 ** 20):
            check_error(self, UnknownRun, {"value": value}, debugger.why_pair, value, None)
            check_error(self, UnknownRun, {"value": value}, debugger.why_pair, 1, value)

    def test_behind_a_release(self):
        engine = Engine(PLACE)
        engine.execute(0, "shop.take", [Amount(3)])
        engine.execute(0, "shop.take", [Amount(4)])
        engine.sync(0)
        engine.release()
        engine.execute(1, "shop.join", [Amount(5)])
        debugger = Debugger(engine, Archive(PLACE))
        check_same(self, [engine.pairs(2), debugger.why_pair(2, 1)], [[1], ([0, 2, 1], ("read", 2, "shop.cash", 0))])
        check_error(self, UnknownRun, {"value": 1}, debugger.why_pair, 1, 0)


class LostByTest(unittest.TestCase):
    def test_known(self):
        found = told(("take", [3]))
        debugger = Debugger(found.engine, found.archive)
        check_same(self, [debugger.lost_by(procedure="shop.take", arguments=[Amount(5)]), debugger.lost_by("shop.join", (Amount(5),)),
                          debugger.lost_by("shop.both", [Amount(1), Amount(2)]), debugger.lost_by("shop.swap", [Amount(0), 1, False])], [1, 1, 1, 1])
        check_same(self, debugger.lost_by("shop.both", [Amount(1), Amount(2)]), 1)

    def test_nothing_changes(self):
        debugger, found = scene()
        engine, archive = found.engine.clone(), found.archive.clone()
        journal = found.engine.journal()
        debugger.go(("live", 2), 1)
        debugger.lost_by("shop.take", [Amount(1)])
        self.assertEqual([found.engine, found.archive, found.engine.journal(), debugger.cursor()], [engine, archive, journal, (("live", 2), 1)])

    def test_below_0(self):
        text = ("module shop\ncell cash\nexport procedure join x:amount\n  if (x less 0/1)\n    let bad = yes\n  add cash x\n  return\n"
                "export procedure look -> truth\n  return (0/1 less @cash)\n")
        found = Told(Program(read_module(text)))
        for _ in range(3):
            found.engine.execute(0, "shop.join", [Amount(0)])
        debugger = Debugger(found.engine, found.archive)
        check_same(self, debugger.lost_by("shop.look", []), -2)
        found.let_go()
        check_same(self, [len(found.archive.kept()), debugger.lost_by("shop.look", []), debugger.lost_by("shop.join", [Amount(0)])], [2, -2, 1])

    def test_as_it_says(self):
        random = Random(60)
        for found in random_stories(random, 60, 14):
            debugger = Debugger(found.engine, found.archive)
            program = found.engine.program
            name, text, sorts = next((name, text, part[0]) for name, told in program.interfaces().items() for text, part in told.items())
            arguments = [{"amount": Amount(2), "count": 1, "truth": True}[sort] for sort in sorts]
            kept = []
            for calls in ([], [(0, f"{name}.{text}", arguments)]):
                engine, archive = found.engine.clone(), found.archive.clone()
                for lane in range(engine.lanes):
                    if engine.is_busy(lane):
                        engine.drop(lane)
                for call in calls:
                    engine.execute(*call)
                for lane in range(engine.lanes):
                    engine.sync(lane)
                archive.let_go(engine)
                kept.append(len(archive.kept()))
            check_same(self, debugger.lost_by(f"{name}.{text}", arguments), kept[1] - kept[0])

    def test_errors(self):
        debugger, found = scene()
        other = Debugger(found.engine, Archive(PLACE))
        for value in (*ODD_VALUES, "shop", "shop.none"):
            check_error(self, UnknownProcedure, {"name": value}, debugger.lost_by, value, None)
            check_error(self, UnknownProcedure, {"name": value}, other.lost_by, value, None)
        check_error(self, InvalidArguments, {"position": None}, other.lost_by, "shop.take", [])
        check_error(self, InvalidArguments, {"position": 0}, other.lost_by, "shop.take", [1])
        check_error(self, NotMine, {}, other.lost_by, "shop.take", [Amount(1)])


if __name__ == "__main__":
    unittest.main()
