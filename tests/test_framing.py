"""[37] Frames."""

import unittest
from random import Random

from cases import random_programs
from helpers import ODD_VALUES, check_error, check_same
from stretchcases import Reading, random_stretch

from leastlog.cuts import least_keeps
from leastlog.errors import InvalidContents, InvalidKeeps
from leastlog.failures import Insufficient, IsLost, NotHeld, UnknownStop, UnknownValue
from leastlog.framing import FramePlan
from leastlog.inlining import optimized_book
from leastlog.stretches import Stretch, stretch_of

# At stop 1 all but 6 are live, at stop 2 only 4 and 5 are.
ROWS = [("leaf", 3), ("leaf", 1), ("set", 2, (3, 1)), ("stop", "a", (2, 1)), ("set", 5, (2,)), ("set", 4, ()), ("set", 6, (5, 4)),
        ("stop", "b", (6, 5, 6)), ("use", (1, 3)), ("set", 7, (2, 5)), ("stop", "c", (7, 2, 4)), ("use", (4,)), ("stop", "d", (5,))]
STRETCH = Stretch(ROWS, [5])
KEEPS = [(2, 2), (1, 2), (2, 3)]


def leaf(value):
    return f"leaf {value}"


def compute(value, operands):
    assert isinstance(operands, list)
    return f"{value}({' '.join(operands)})"


class Slots:
    """Held values and their slots as the document says."""

    def __init__(self, stretch, keeps):
        reading = Reading(stretch)
        self.known = reading.known(set(keeps))
        self.slots = []
        for stop in range(len(stretch.stops())):
            ahead = self.slots[-1] if stop else {}
            held = [value for value in stretch.all_values() if (value, stop) in self.known
                    and (reading.is_live(value, stop) or (value, stop) in keeps)]
            found = {value: ahead[value] for value in held if value in ahead}
            for value in held:
                if value not in found:
                    found[value] = min(set(range(len(held) + len(ahead) + 1)) - set(found.values()))
            self.slots.append(found)

    def recipe(self, stretch, value, stop):
        if value in self.slots[stop]:
            return []
        found = [one for operand in stretch.operands(value) for one in self.recipe(stretch, operand, stop)]
        return sorted({*found, value}, key=stretch.all_values().index)


class PlanTest(unittest.TestCase):
    def setUp(self):
        self.plan = FramePlan(STRETCH, KEEPS)

    def test_held_and_slots(self):
        plan = self.plan
        check_same(self, [plan.held(stop) for stop in range(4)], [[1, 2, 3], [1, 2, 3, 4, 5], [1, 2, 4, 5], [2, 5]])
        check_same(self, [[plan.slot_of(value, stop) for value in plan.held(stop)] for stop in range(4)],
                   [[1, 2, 0], [1, 2, 0, 4, 3], [1, 2, 4, 3], [2, 3]])
        check_same(self, [plan.slots, plan.held(stop=3), plan.slot_of(value=5, stop=1)], [5, [2, 5], 3])

    def test_slots_that_are_free_again(self):
        rows = [("leaf", 0), ("leaf", 1), ("stop", "a", ()), ("use", (0,)), ("leaf", 2), ("leaf", 3), ("stop", "b", ()), ("use", (1, 2, 3)),
                ("leaf", 4), ("stop", "c", ()), ("use", (4,))]
        plan = FramePlan(Stretch(rows), [])
        check_same(self, [[(value, plan.slot_of(value, stop)) for value in plan.held(stop)] for stop in range(3)],
                   [[(0, 0), (1, 1)], [(1, 1), (2, 0), (3, 2)], [(4, 0)]])
        check_same(self, [plan.slots, FramePlan(Stretch([]), []).slots, FramePlan(Stretch([("stop", "a", ())]), ()).slots], [3, 0, 0])

    def test_recipes(self):
        plan = self.plan
        check_same(self, [plan.recipe(2, 0), plan.recipe(5, 1), plan.recipe(6, 1), plan.recipe(7, 2), plan.recipe(6, 2)],
                   [[], [], [6], [7], [6]])
        check_same(self, [plan.recipe(4, 3), plan.recipe(6, 3), plan.recipe(value=7, stop=3)], [[4], [4, 6], [7]])
        rows = [("leaf", 9), ("set", 8, (9,)), ("set", 2, (8, 9)), ("set", 5, (8,)), ("set", 1, (5, 2, 5)), ("stop", "a", (1,))]
        check_same(self, FramePlan(Stretch(rows), [(9, 0)]).recipe(1, 0), [8, 2, 5, 1])
        check_same(self, FramePlan(Stretch(rows), [(9, 0), (8, 0)]).recipe(1, 0), [2, 5, 1])

    def test_walk(self):
        found = list(self.plan.walk(leaf, compute))
        two, four = "2(leaf 3 leaf 1)", "4()"
        five = f"5({two})"
        check_same(self, found, [
            ("a", {0: "leaf 3", 1: "leaf 1", 2: two}), ("b", {0: "leaf 3", 1: "leaf 1", 2: two, 3: five, 4: four}),
            ("c", {1: "leaf 1", 2: two, 3: five, 4: four}), ("d", {2: two, 3: five})])
        check_same(self, list(self.plan.walk(leaf=leaf, compute=compute)), found)
        walk = self.plan.walk(leaf, compute)
        next(walk)[1].clear()
        check_same(self, [next(walk), list(walk)], [found[1], found[2:]])

    def test_tell(self):
        contents = [held for _, held in self.plan.walk(leaf, compute)]
        two = "2(leaf 3 leaf 1)"
        check_same(self, self.plan.tell(0, contents[0], compute), {1: "leaf 1", 2: two})
        check_same(self, self.plan.tell(1, contents[1], compute), {5: f"5({two})", 6: f"6(5({two}) 4())"})
        check_same(self, self.plan.tell(stop=2, contents={4: "four", 3: "five", 2: "two", 1: "one", 0: "x", "more": 1}, compute=compute),
                   {2: "two", 4: "four", 7: "7(two five)"})
        before = dict(contents[1])
        self.plan.tell(1, contents[1], compute)
        check_same(self, contents[1], before)

    def test_only_what_has_to_be_computed(self):
        seen = []
        self.plan.tell(1, dict.fromkeys(range(5), "x"), lambda value, operands: seen.append(value))
        self.assertEqual(seen, [6])

    def test_least(self):
        plan = FramePlan.least(stretch=STRETCH)
        self.assertEqual(type(plan), FramePlan)
        keeps = least_keeps(STRETCH)
        other = FramePlan(stretch=STRETCH, keeps=tuple(keeps))
        check_same(self, keeps, [(2, 2)])
        check_same(self, [plan.held(stop) for stop in range(4)], [other.held(stop) for stop in range(4)])
        check_same(self, plan.held(2), [2, 4, 5])

    def test_keeps_that_are_lost_ahead_have_no_effect(self):
        stretch = Stretch([("leaf", 0), *[("stop", "s", ())] * 3])
        plan = FramePlan(stretch, [(0, 0), (0, 2)])
        check_same(self, [[plan.held(stop) for stop in range(3)], plan.slots], [[[0], [], []], 1])
        check_error(self, NotHeld, {"value": 0, "stop_number": 2}, plan.slot_of, 0, 2)
        check_error(self, IsLost, {"value": 0, "stop_number": 2}, plan.recipe, 0, 2)


class ErrorsTest(unittest.TestCase):
    def setUp(self):
        self.plan = FramePlan(STRETCH, KEEPS)

    def test_keeps(self):
        for value in (5, None, "a", {}):
            check_error(self, InvalidKeeps, {"position": None}, FramePlan, STRETCH, value)
        for keeps, position in (([(2, 2), (2, 2)], 1), ([(2, 0)], 0), ([(7, 1)], 0), ([(1, 2), [2, 2]], 1), ([(1, 2), (1, True)], 1)):
            check_error(self, InvalidKeeps, {"position": position}, FramePlan, STRETCH, keeps)
        check_error(self, Insufficient, {"value": 2, "stop_number": 2}, FramePlan, STRETCH, [])
        check_error(self, Insufficient, {"value": 2, "stop_number": 2}, FramePlan, STRETCH, [(1, 2), (2, 3)])
        stretch = Stretch([("leaf", 5), ("leaf", 3), ("stop", "a", ()), ("stop", "b", (5, 3))])
        check_error(self, Insufficient, {"value": 3, "stop_number": 1}, FramePlan, stretch, [(5, 0), (5, 1)])
        check_error(self, Insufficient, {"value": 5, "stop_number": 1}, FramePlan, stretch, [(3, 0), (3, 1)])

    def test_values_and_stops(self):
        for function in (self.plan.slot_of, self.plan.recipe):
            for value in (*ODD_VALUES, 0, 8, -1, "1", (1,)):
                check_error(self, UnknownValue, {"value": value}, function, value, None)
            for stop in (*ODD_VALUES, 4, -1, "1"):
                check_error(self, UnknownStop, {"stop_number": stop}, function, 1, stop)
        for stop in (*ODD_VALUES, 4, -1, "1"):
            check_error(self, UnknownStop, {"stop_number": stop}, self.plan.held, stop)
            check_error(self, UnknownStop, {"stop_number": stop}, self.plan.tell, stop, None, compute)

    def test_not_held_and_lost(self):
        for value, stop in ((5, 0), (7, 1), (6, 1), (3, 2), (7, 3), (4, 3), (1, 3)):
            check_error(self, NotHeld, {"value": value, "stop_number": stop}, self.plan.slot_of, value, stop)
        for value, stop in ((5, 0), (4, 0), (7, 1), (3, 2), (1, 3), (3, 3)):
            check_error(self, IsLost, {"value": value, "stop_number": stop}, self.plan.recipe, value, stop)

    def test_contents(self):
        for value in (None, 5, [], (), "abc", [1, 2, 3, 4, 5]):
            check_error(self, InvalidContents, {"slot": None}, self.plan.tell, 1, value, compute)
        for slots, lacking in (((), 0), ((0, 2, 3, 4), 1), ((0, 1, 2), 3), ((4, 1), 0), ((0, True, 2, 3, 4), 1), ((False, 1, 2, 3, 4), 0)):
            contents = dict.fromkeys(slots, "x")
            check_error(self, InvalidContents, {"slot": lacking}, self.plan.tell, 1, contents, compute)
        check_error(self, InvalidContents, {"slot": 2}, self.plan.tell, 2, {0: "x", 1: "x", 3: "x", 4: "x", "2": "x"}, compute)


class RandomPlansTest(unittest.TestCase):
    def check(self, stretch, keeps):
        plan, slots = FramePlan(stretch, keeps), Slots(stretch, keeps)
        everything = {}
        for row in stretch.row_list:
            if row[0] in ("leaf", "set"):
                everything[row[1]] = leaf(row[1]) if row[0] == "leaf" else compute(row[1], [everything[one] for one in row[2]])
        walked = list(plan.walk(leaf, compute))
        self.assertEqual([label for label, _ in walked], stretch.stops())
        for stop, (_, contents) in enumerate(walked):
            held = slots.slots[stop]
            self.assertEqual(plan.held(stop), sorted(held))
            by_slots = {slot: everything[value] for value, slot in held.items()}
            check_same(self, contents, {slot: by_slots[slot] for slot in sorted(by_slots)})
            asked = {value: everything[value] for value in sorted(set(stretch.asked(stop)))}
            check_same(self, plan.tell(stop, contents, compute), asked)
            for value in stretch.all_values():
                if value in held:
                    self.assertEqual(plan.slot_of(value, stop), held[value])
                else:
                    check_error(self, NotHeld, {"value": value, "stop_number": stop}, plan.slot_of, value, stop)
                if (value, stop) in slots.known:
                    self.assertEqual(plan.recipe(value, stop), slots.recipe(stretch, value, stop))
                else:
                    check_error(self, IsLost, {"value": value, "stop_number": stop}, plan.recipe, value, stop)
        self.assertEqual(plan.slots, len({slot for held in slots.slots for slot in held.values()}))

    def test_random_stretches(self):
        random = Random(37)
        for _ in range(250):
            stretch = random_stretch(random, random.randint(0, 25), 4)
            keeps = least_keeps(stretch)
            self.check(stretch, keeps)
            more = [spot for spot in Reading(stretch).candidates() if spot in keeps or random.random() < 0.4]
            random.shuffle(more)
            self.check(stretch, more)

    def test_codes(self):
        for made in random_programs(370, 15):
            for code in optimized_book(made, "inline", "spread", "share", "drop").values():
                stretch = stretch_of(code)
                self.check(stretch, least_keeps(stretch))


if __name__ == "__main__":
    unittest.main()
