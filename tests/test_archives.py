"""[52] to [55] Archives."""

import unittest
from random import Random

from archivecases import Told, chosen_numbers, forms_along, random_stories, run_history
from helpers import ODD_VALUES, check_error, check_same
from test_engine import PROGRAM, VERSIONS

from leastlog.amounts import Amount
from leastlog.archives import Archive
from leastlog.conditions import Negative, NonPositive, Zero
from leastlog.engine import Engine
from leastlog.errors import InvalidCells, NotDurable
from leastlog.failures import NotMine, UnknownKept, UnknownRun, UnknownSymbol
from leastlog.forms import Form
from leastlog.modules import Module
from leastlog.moduletexts import read_module
from leastlog.programs import Program
from leastlog.regions import Region
from leastlog.runs import Run
from leastlog.systems import form_rank

SHOP = """module shop
cell cash
cell tin
export procedure take x:amount
  put cash = x
  return
export procedure both x:amount y:amount
  put cash = (x + y)
  put tin = (x - y)
  return
export procedure join x:amount
  put cash = (@cash + x)
  return
export procedure twin x:amount y:amount
  if (x same y)
    put cash = (x + y)
  return
export procedure swap x:amount n:count good:truth
  if (good and (@cash less x))
    let held = @cash
    put cash = @tin
    put tin = (held * n)
  return
"""
PLACE = Program(read_module(SHOP))


def told(*calls, cells=None, parts=None):
    """An archive of these calls, tuples (procedure, arguments, weight), let go behind so many of them."""
    found = Told(PLACE, cells)
    for at, (text, arguments, *weight) in enumerate(calls):
        found.engine.execute(0, f"shop.{text}", [Amount(one) if type(one) is int else one[0] for one in arguments], weight=weight[0] if weight else 1)
        if at + 1 in (parts or ()):
            found.let_go()
    found.let_go()
    return found


class KeptTest(unittest.TestCase):
    """Kept numbers reckoned by hand."""

    def check(self, found, kept, costs=None):
        archive = found.archive
        check_same(self, archive.kept(), [(what, Amount(amount)) for what, amount in kept])
        check_same(self, archive.costs(), [1] * len(kept) if costs is None else costs)
        check_same(self, archive.point(), dict(sorted(found.point().items())))

    def test_nothing_is_overwritten(self):
        self.check(told(), [])
        self.check(told(("take", [3])), [])
        self.check(told(("both", [3, 5])), [])
        self.check(told(("take", [3]), cells={"shop.cash": Amount(7)}), [])

    def test_overwritten_inputs(self):
        self.check(told(("take", [3]), ("take", [5])), [(("input", 0, 0), 3)])
        self.check(told(("take", [3]), ("take", [5]), ("take", [8])), [(("input", 0, 0), 3), (("input", 1, 0), 5)])
        self.check(told(("both", [3, 4]), ("take", [5])), [(("input", 0, 0), 3)])

    def test_sums_keep_all_but_one(self):
        self.check(told(("join", [3]), ("join", [4]), ("join", [5])), [(("input", 0, 0), 3), (("input", 1, 0), 4)])
        self.check(told(("join", [3], 2), ("join", [4], 1), ("join", [5], 1)), [(("input", 1, 0), 4), (("input", 2, 0), 5)])
        self.check(told(("join", [3], 9), ("join", [4], 4), ("join", [5], 4)), [(("input", 1, 0), 4), (("input", 2, 0), 5)], [4, 4])

    def test_cells_at_the_last_cut_are_candidates_ahead_of_inputs(self):
        self.check(told(("take", [3]), ("take", [5]), parts=[1]), [(("cell", 1, "shop.cash"), 3)])
        self.check(told(("join", [3]), ("join", [5]), ("take", [7]), parts=[2]), [(("input", 0, 0), 3), (("cell", 1, "shop.cash"), 8)])
        self.check(told(("both", [3, 5], 4), ("take", [7]), ("take", [9], 3), parts=[1]), [(("cell", 1, "shop.cash"), 8), (("input", 1, 0), 7)])

    def test_costs_stay_with_what_is_kept(self):
        found = told(("take", [3], 7), ("take", [5], 5), ("take", [8], 2))
        self.check(found, [(("input", 0, 0), 3), (("input", 1, 0), 5)], [7, 5])
        found.engine.execute(0, "shop.take", [Amount(1)], weight=9)
        found.let_go()
        self.check(found, [(("input", 0, 0), 3), (("input", 1, 0), 5), (("cell", 1, "shop.cash"), 8)], [7, 5, 1])

    def test_equal_inputs_are_one_number(self):
        self.check(told(("twin", [3, 3]), ("take", [5])), [(("input", 0, 0), 3)])
        self.check(told(("twin", [3, 3], 4)), [])
        self.check(told(("twin", [3, 4])), [(("input", 0, 0), 3), (("input", 0, 1), 4)])

    def test_a_kept_number_may_be_dropped_later(self):
        """Two amounts that are not below 0 are 0 as soon as their sum is shown not to be above 0."""
        found = Told(Program(read_module(
            "module shop\ncell cash\nexport procedure join x:amount\n  if (x less 0/1)\n    let bad = yes\n  add cash x\n  return\n"
            "export procedure look -> truth\n  return (0/1 less @cash)\nexport procedure take x:amount\n  put cash = x\n  return\n")))
        for _ in range(2):
            found.engine.execute(0, "shop.join", [Amount(0)])
        found.let_go()
        self.check(found, [(("input", 0, 0), 0)])
        found.engine.execute(0, "shop.look", [])
        found.let_go()
        self.check(found, [])
        flat = [Form(0, {"0.0": -1}), Form(0, {"1.0": -1}), Form(0, {"0.0": 1, "1.0": 1})]
        check_same(self, found.archive.region().flat(), flat)
        found.engine.execute(0, "shop.take", [Amount(5)])
        found.let_go()
        self.check(found, [])

    def test_replacements(self):
        found = Told(PLACE, {"shop.tin": Amount(2)})
        found.engine.execute(0, "shop.take", [Amount(3)])
        found.engine.replace(1, read_module(SHOP.replace("cell tin\n", "cell tin\ncarry cash = ((@cash * 2/1) + @tin)\ncarry tin = @cash\n")))
        found.engine.execute(0, "shop.join", [Amount(4)])
        found.let_go()
        self.check(found, [])
        check_same(self, found.archive.cell_forms(), {"shop.cash": Form(2, {"0.0": 2, "2.0": 1}), "shop.tin": Form(0, {"0.0": 1})})
        found.engine.replace(0, read_module("module shop\ncell tin\n"))
        found.let_go()
        self.check(found, [(("cell", 1, "shop.cash"), 12)])
        check_same(self, [found.archive.cell_forms(), found.archive.program == found.engine.program], [{"shop.tin": Form(0, {"0.0": 1})}, True])
        found.engine.replace(0, read_module("module shop\n"))
        found.let_go()
        self.check(found, [(("cell", 1, "shop.cash"), 12), (("cell", 2, "shop.tin"), 3)])
        check_same(self, [found.archive.cells(), found.archive.cut_number], [{}, 3])

    def test_only_same_and_weights_of_1_drop_nothing(self):
        random = Random(55)
        for _ in range(30):
            found = Told(PLACE)
            before = []
            for _ in range(4):
                for _ in range(random.randint(0, 3)):
                    word = random.choice(("take", "both", "join", "twin"))
                    numbers = [Amount(random.randint(0, 1)) for _ in range(2 if word in ("both", "twin") else 1)]
                    found.engine.execute(0, f"shop.{word}", numbers)
                found.let_go()
                self.assertTrue(all(one in found.archive.kept() for one in before))
                before = found.archive.kept()


class QueriesTest(unittest.TestCase):
    def test_an_empty_archive(self):
        archive = Archive(program=PLACE, cells={"shop.tin": Amount(2)})
        cells = {"shop.cash": Amount(0), "shop.tin": Amount(2)}
        check_same(self, [archive.cut_number, archive.taken, archive.records(), archive.kept(), archive.costs(), archive.symbols(), len(archive)],
                   [0, (), [], [], [], [], 0])
        check_same(self, [archive.cells(), archive.cell_forms(), archive.kept_forms(), archive.point(), archive.region().conditions()],
                   [cells, {"shop.cash": Form(0), "shop.tin": Form(2)}, [], {}, []])
        check_same(self, [archive.cells_before(0), archive.program_before(0) == PLACE, archive.program == PLACE], [cells, True, True])
        check_same(self, archive.told_by(Form(3))[1], [])
        check_same(self, list(Archive(PLACE).cells().values()), [Amount(0), Amount(0)])

    def test_records(self):
        found = Told(PLACE, {"shop.cash": Amount(1)})
        found.engine.execute(1, "shop.swap", [Amount(3), 2, True], weight=5)
        found.engine.execute(0, "shop.swap", [Amount(9), 0, False], weight=1)
        found.engine.replace(2, Module("till"))
        found.engine.execute(0, "shop.swap", [Amount(-9), -1, True], weight=2)
        check_same(self, found.let_go(), 4)
        check_same(self, found.archive.records(), [
            ("run", "shop.swap", (None, 2, True), (True,), "gave", 5), ("run", "shop.swap", (None, 0, False), (True,), "gave", 1),
            ("module", "module till\n"), ("run", "shop.swap", (None, -1, True), (False,), "gave", 2)])
        check_same(self, [found.archive.symbols(), len(found.archive), found.archive.cut_number, found.archive.taken], [["0.0", "1.0", "3.0"], 4, 1, (2, 1, 1)])
        conditions = [Negative(Form(1, {"0.0": -1})), Negative(Form(0, {"1.0": -1})), NonPositive(Form(0, {"3.0": 1}))]
        self.assertEqual(found.archive.region().conditions(), conditions)
        check_same(self, [found.archive.arguments_of(2), found.archive.arguments_of(run=0), found.archive.trace_of(2), found.archive.form_trace_of(2)],
                   [[], [Amount(3), 2, True], [], []])

    def test_failed_runs(self):
        found = Told(PROGRAM)
        found.engine.execute(0, "till.pay", [Amount(6), 0])
        found.engine.execute(0, "till.move", [5])
        found.let_go()
        check_same(self, [found.archive.records()[0], found.archive.records()[1]],
                   [("run", "till.pay", (None, 0), (), "zero", 1), ("run", "till.move", (5,), (), "row", 1)])
        check_same(self, [found.archive.trace_of(run=0)[-1], found.archive.kept()], [("failed", "zero"), [(("input", 0, 0), Amount(6))]])

    def test_cuts(self):
        found = told(("take", [3]), parts=[1])
        check_same(self, [found.archive.cut_number, found.let_go(), found.archive.cut_number, found.archive.taken], [2, 0, 3, (1, 0, 0)])

    def test_told_by(self):
        found = told(("join", [3]), ("both", [4, 9]), ("join", [5]))
        archive = found.archive
        for form in (Form(3), Form.symbol("0.0"), Form(2, {"1.1": 3, "2.0": -1}), *archive.cell_forms().values()):
            constant, kept, cells, flat = archive.told_by(form=form)
            check_same(self, [len(kept), len(cells), len(flat)], [len(archive.kept()), 2, len(archive.region().flat())])
            total = Form(constant)
            for weight, one in zip([*kept, *cells, *flat], [*archive.kept_forms(), *archive.cell_forms().values(), *archive.region().flat()], strict=True):
                total = total + one * weight
            self.assertEqual(total, form)
        check_error(self, UnknownSymbol, {"name": "0.1"}, archive.told_by, Form(0, {"0.0": 1, "0.1": 1, "9.0": 1}))
        check_error(self, UnknownSymbol, {"name": "shop.cash"}, archive.told_by, Form.symbol("shop.cash"))

    def test_the_flat_tells(self):
        found = told(("twin", [3, 3]), ("take", [5]))
        archive = found.archive
        check_same(self, [[str(one) for one in archive.region().conditions()], archive.region().flat()], [["0.0 - 0.1 = 0"], [Zero(Form(0, {"0.0": 1, "0.1": -1})).form]])
        constant, kept, cells, flat = archive.told_by(Form.symbol("0.1"))
        check_same(self, [constant, kept, cells, flat], [Amount(0), [Amount(1)], [Amount(0), Amount(0)], [Amount(-1)]])

    def test_errors(self):
        for value in (*[value for value in ODD_VALUES if not isinstance(value, dict) and value is not None], 5):
            check_error(self, InvalidCells, {"key": None}, Archive, PLACE, value)
        check_error(self, InvalidCells, {"key": "shop.box"}, Archive, PLACE, {"shop.cash": Amount(1), "shop.box": Amount(1)})
        check_error(self, InvalidCells, {"key": "shop.tin"}, Archive, PLACE, {"shop.tin": 1})
        archive = told(("take", [3]), ("take", [4])).archive
        for value in (*ODD_VALUES, -1, 3, 10 ** 20):
            for query in (archive.arguments_of, archive.cells_before, archive.program_before, archive.trace_of, archive.form_trace_of, archive.stop_count_of):
                check_error(self, UnknownRun, {"value": value}, query, value)
        for query in (archive.arguments_of, archive.trace_of, archive.form_trace_of):
            check_error(self, UnknownRun, {"value": 2}, query, 2)
        for value in (*ODD_VALUES, -1, 1, 10 ** 20):
            check_error(self, UnknownKept, {"value": value}, archive.histories, value)

    def test_results_are_new(self):
        archive = told(("take", [3]), ("take", [4])).archive
        for query in (archive.records, archive.kept, archive.costs, archive.symbols, archive.kept_forms, lambda: archive.arguments_of(0),
                      lambda: archive.trace_of(0), lambda: archive.form_trace_of(0), lambda: archive.region().conditions(), lambda: archive.histories(0)[0],
                      lambda: archive.histories(0)[1][0]):
            query().append("x")
            self.assertNotIn("x", query())
        for query in (archive.cells, archive.cell_forms, archive.point, lambda: archive.cells_before(1), lambda: archive.trace_of(0)[0][2][0]):
            query()["z"] = "z"
            self.assertNotIn("z", query())


class LetGoTest(unittest.TestCase):
    def test_not_mine(self):
        engine, archive = Engine(PLACE), Archive(PLACE)
        for other in (Archive(PLACE, {"shop.cash": Amount(1)}), Archive(Program(read_module(SHOP), read_module("module bank\n"))), Archive(PROGRAM)):
            before = other.clone()
            check_error(self, NotMine, {}, other.let_go, engine)
            self.assertEqual(other, before)
        engine.execute(0, "shop.take", [Amount(3)])
        check_error(self, NotMine, {}, Archive(PLACE, {"shop.cash": Amount(3)}).let_go, engine)
        check_error(self, NotDurable, {"number": 0}, archive.let_go, engine)
        engine.replace(1, read_module(SHOP.replace("(@cash + x)", "(@cash - x)")))
        engine.sync(0)
        check_error(self, NotDurable, {"number": 1}, archive.let_go, engine)
        check_error(self, NotMine, {}, Archive(engine.program).let_go, engine)
        check_same(self, [archive == Archive(PLACE), len(engine.run_numbers())], [True, 2])
        engine.sync(1)
        check_same(self, [archive.let_go(engine=engine), engine.released, archive.program == engine.program], [2, 2, True])
        check_error(self, NotMine, {}, Archive(PLACE).let_go, engine)
        check_same(self, archive.let_go(engine), 0)

    def test_an_engine_that_goes_on_from_the_archive(self):
        found = told(("take", [3]), ("join", [5]))
        other = Engine(found.archive.program, lanes=1, cells=found.archive.cells())
        other.execute(0, "shop.take", [Amount(1)])
        other.sync(0)
        check_same(self, [found.archive.let_go(other), found.archive.taken, found.archive.cells()["shop.cash"]], [1, (1,), Amount(1)])
        check_same(self, found.archive.kept(), [(("input", 0, 0), Amount(3)), (("cell", 1, "shop.cash"), Amount(8))])

    def test_runs_under_way_are_begun_again(self):
        found = Told(PLACE)
        found.engine.begin(1, "shop.take", [Amount(4)])
        found.engine.execute(0, "shop.take", [Amount(3)])
        found.let_go()
        check_same(self, [found.engine.fate_of(1), found.engine.standing_of(1), found.engine.attempt_of(1)], ["release", 1, 2])

    def test_after_a_crash(self):
        """The entries up to taken are dropped, and the engine goes on from the archive."""
        found = Told(PLACE, lanes=2)
        found.engine.execute(0, "shop.take", [Amount(3)])
        found.engine.execute(1, "shop.join", [Amount(5)])
        earlier = found.engine.journal()
        found.let_go()
        earlier.sync()
        for journal in (earlier, found.engine.journal()):
            journal.drop(found.archive.taken)
            restored = Engine.restored(found.archive.program, journal, cells=found.archive.cells())
            check_same(self, [len(restored), restored.cells()], [0, found.engine.cells()])
            restored.execute(1, "shop.take", [Amount(9)])
            restored.sync(1)
            archive = found.archive.clone()
            check_same(self, [archive.let_go(restored), archive.taken, archive.point()["2.0"]], [1, (1, 2), Amount(9)])


class CopiesTest(unittest.TestCase):
    def test_clone(self):
        found = told(("take", [3]), ("take", [5]))
        other = found.archive.clone()
        self.assertEqual(other, found.archive)
        found.engine.execute(0, "shop.take", [Amount(7)])
        found.let_go()
        self.assertNotEqual(other, found.archive)
        check_same(self, [len(other), other.cut_number, other.cells()["shop.cash"], other.symbols(), len(found.archive)], [2, 1, Amount(5), ["0.0", "1.0"], 3])
        check_same(self, [other.cell_forms()["shop.cash"], other.cells_before(2)["shop.cash"], other.point()], [Form.symbol("1.0"), Amount(5), {"0.0": Amount(3), "1.0": Amount(5)}])
        third = found.archive.clone()
        found.engine.execute(0, "shop.twin", [Amount(1), Amount(2)])
        found.engine.replace(0, Module("shop"))
        found.let_go()
        check_same(self, [third.region().conditions(), third.cell_forms(), third.stop_count_of(2)], [[], {"shop.cash": Form.symbol("2.0"), "shop.tin": Form(0)}, 2])
        self.assertEqual([third.program_before(3), third.program, third.program_before(0)], [PLACE] * 3)
        check_error(self, UnknownRun, {"value": 3}, third.stop_count_of, 3)
        check_same(self, [found.archive.stop_count_of(run) for run in range(5)], [2, 2, 2, 2, 0])

    def test_equality(self):
        calls = [("take", [3]), ("take", [5])]
        archive = told(*calls).archive
        self.assertEqual(archive, told(*calls).archive)
        others = [told(*calls, parts=[1]).archive, told(("take", [4]), ("take", [5])).archive, told(("take", [3]), ("take", [4])).archive,
                  told(("take", [3], 2), ("take", [5])).archive, told(*calls, cells={"shop.tin": Amount(1)}).archive, told(*calls, ("swap", [0, (1,), (True,)])).archive,
                  Archive(PLACE)]
        for one in others:
            self.assertNotEqual(archive, one)
        self.assertNotEqual(told(("swap", [0, (1,), (False,)])).archive, told(("swap", [0, (0,), (False,)])).archive)
        found = told(*calls)
        found.let_go()
        self.assertNotEqual(found.archive, archive)
        lanes = Engine(PLACE, lanes=1)
        other = Archive(PLACE)
        for _, (amount,) in calls:
            lanes.execute(0, "shop.take", [Amount(amount)])
        lanes.sync(0)
        other.let_go(lanes)
        self.assertNotEqual(other, archive)
        for value in (*ODD_VALUES, PLACE):
            self.assertNotEqual(archive, value)
        self.assertNotEqual(Archive(PLACE), Archive(PLACE.with_module(read_module(SHOP.replace("(@cash + x)", "(@cash - x)")))))


class StoriesTest(unittest.TestCase):
    """Archives of random runs, with all that really happened beside them."""

    def test_stories(self):
        random = Random(52)
        kept = replaced = 0
        stories = [*random_stories(random, 52, 40), *random_stories(random, 0, 0, versions=VERSIONS, pool=[PROGRAM] * 12)]
        for found in stories:
            self.check_told(found)
            self.check_kept(found)
            self.check_histories(random, found)
            kept += len(found.archive.kept())
            replaced += sum(record[0] == "module" for record in found.records)
        self.assertGreater(len(stories), 40)
        self.assertGreater(kept, 100)
        self.assertGreater(replaced, 60)

    def check_told(self, found):
        """[4] NOTHING FORGOTTEN: all that happened is told anew."""
        archive = found.archive
        check_same(self, archive.point(), dict(sorted(found.point().items())))
        check_same(self, [archive.symbols(), len(archive), archive.cut_number], [sorted(found.point()), len(found.records), len(found.cuts) - 1])
        for run, record in enumerate(found.records):
            program, cells = found.before[run]
            check_same(self, archive.cells_before(run), cells)
            self.assertEqual(archive.program_before(run), program)
            if record[0] == "module":
                check_same(self, [archive.records()[run], archive.arguments_of(run), archive.trace_of(run)], [("module", str(record[1])), [], []])
                continue
            check_same(self, archive.arguments_of(run), list(record[2]))
            trace = Run.traced(program, record[1], record[2], cells)
            check_same(self, archive.trace_of(run), trace)
            check_same(self, [at_point(event, found.point()) for event in archive.form_trace_of(run)], trace)
            controls = tuple(None if isinstance(one, Amount) else one for one in record[2])
            check_same(self, archive.records()[run], ("run", record[1], controls, record[4], record[5], record[3]))
        check_same(self, archive.cells_before(len(archive)), archive.cells())

    def check_kept(self, found):
        """[54], and [55] (2): as few numbers as possible."""
        archive = found.archive
        forms, conditions = forms_along(found.cuts[0][1], found.cuts[0][2], archive.records())
        self.assertEqual([archive.cell_forms(), archive.region().conditions()], [forms[-1], conditions])
        check_same(self, list(zip([what for what, _ in archive.kept()], archive.costs())), chosen_numbers(found))
        check_same(self, archive.kept(), [(what, found.amount_of(what)) for what, _ in archive.kept()])
        check_same(self, [one.value_at(archive.point()) for one in archive.kept_forms()], [amount for _, amount in archive.kept()])
        rank = form_rank([*Region(conditions).flat(), *forms[-1].values()])
        check_same(self, len(archive.kept()), len(archive.symbols()) - rank)
        for symbol in archive.symbols():
            constant, kept, cells, flat = archive.told_by(Form.symbol(symbol))
            total = Form(constant)
            for weight, one in zip([*kept, *cells, *flat], [*archive.kept_forms(), *forms[-1].values(), *archive.region().flat()], strict=True):
                total = total + one * weight
            self.assertEqual(total, Form.symbol(symbol))

    def check_histories(self, random, found):
        """[4] NOTHING IN VAIN: two histories that differ in one kept number alone."""
        archive = found.archive
        for index in range(len(archive.kept())):
            if random.random() < 0.5:
                continue
            ends = []
            for history in archive.histories(index):
                paths, stores = run_history(found, history)
                check_same(self, paths, [record[3] if record[0] == "run" else None for record in archive.records()])
                controls = [[None if isinstance(one, Amount) else one for one in arguments] for arguments in history]
                check_same(self, controls, [list(record[2]) if record[0] == "run" else [] for record in archive.records()])
                numbers = [history[number][part] if kind == "input" else stores[found.cuts[number][0]][part]
                           for (kind, number, part), _ in archive.kept()]
                ends.append((stores[-1], numbers))
            (cells, one), (other_cells, other) = ends
            check_same(self, [cells, one[:index] + one[index + 1:]], [other_cells, other[:index] + other[index + 1:]])
            self.assertNotEqual(one[index], other[index])


def at_point(value, point):
    if isinstance(value, Form):
        return value.value_at(point)
    if isinstance(value, tuple):
        return tuple(at_point(part, point) for part in value)
    return {key: at_point(part, point) for key, part in value.items()} if isinstance(value, dict) else value


if __name__ == "__main__":
    unittest.main()
