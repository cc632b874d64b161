"""[35] Keeps, what is known by them, and the least ones; [36] certificates."""

import unittest
from itertools import combinations
from random import Random

from cases import random_programs
from helpers import ODD_VALUES, check_error, check_same
from stretchcases import Reading, random_stretch

from leastlog.cuts import certificate, is_certificate, least_keeps
from leastlog.errors import InvalidKeeps
from leastlog.failures import UnknownStop
from leastlog.inlining import optimized_book
from leastlog.keeps import known, missing
from leastlog.stretches import Stretch, stretch_of

# 2 is live at stop 0 alone, 0 and 1 nowhere; stop 1 asks for 0 and 2.
STRETCH = Stretch([("leaf", 0), ("leaf", 1), ("set", 2, (0, 1)), ("stop", "a", (2,)), ("set", 3, (2,)), ("use", (3,)), ("stop", "b", (0, 2))])
# Nothing is live at any of the stops.
DEAD = Stretch([("leaf", 0), ("set", 1, (0,)), ("set", 2, ()), *[("stop", "s", (1, 2))] * 3])


class KnownTest(unittest.TestCase):
    def test_example(self):
        check_same(self, [STRETCH.live(0), known(STRETCH, [(0, 0), (0, 1)], 1), least_keeps(STRETCH),
                          is_certificate(STRETCH, [[(0, 0), (0, 1)], [(0, 1)], [(1, 1), (2, 1)]])],
                   [[2], [0], [(0, 0), (0, 1), (2, 1)], True])

    def test_by_operands(self):
        check_same(self, [known(DEAD, [], stop) for stop in range(3)], [[2], [2], [2]])
        check_same(self, [known(DEAD, [(0, 0), (0, 1)], stop) for stop in range(3)], [[0, 1, 2], [0, 1, 2], [2]])
        check_same(self, [known(DEAD, [(1, 2), (0, 1), (0, 0)], stop) for stop in range(3)], [[0, 1, 2], [0, 1, 2], [1, 2]])
        check_same(self, known(stretch=DEAD, keeps=((1, 0),), stop=0), [1, 2])

    def test_what_is_lost_stays_lost(self):
        check_same(self, [known(DEAD, [(0, 1), (1, 2)], stop) for stop in range(3)], [[2], [2], [2]])
        check_same(self, [known(DEAD, [(0, 0), (1, 2), (0, 2)], stop) for stop in range(3)], [[0, 1, 2], [2], [2]])

    def test_new_values_need_not_have_been_known(self):
        stretch = Stretch([("stop", "a", ()), ("leaf", 0), ("stop", "b", ()), ("set", 1, (0,)), ("stop", "c", (0,))])
        check_same(self, [known(stretch, [], stop) for stop in range(3)], [[], [0], []])
        check_same(self, [known(stretch, [(0, 2)], stop) for stop in range(3)], [[], [0], [0, 1]])
        check_same(self, [known(stretch, [(1, 2)], stop) for stop in range(3)], [[], [0], [1]])

    def test_missing(self):
        check_same(self, missing(DEAD, []), (0, 1))
        check_same(self, missing(DEAD, [(0, 0), (1, 1)]), (2, 1))
        check_same(self, missing(DEAD, [(0, 0), (1, 1), (1, 2)]), None)
        check_same(self, missing(stretch=STRETCH, keeps=((0, 0), (0, 1))), (1, 2))
        check_same(self, missing(STRETCH, [(2, 1)]), (1, 0))
        check_same(self, missing(Stretch([]), []), None)
        both = Stretch([("leaf", 5), ("leaf", 3), ("leaf", 4), ("stop", "s", (5, 3, 4))])
        check_same(self, [missing(both, []), missing(both, [(3, 0)])], [(0, 3), (0, 4)])

    def test_as_the_document_says(self):
        random = Random(35)
        for _ in range(400):
            stretch = random_stretch(random, random.randint(0, 14))
            reading = Reading(stretch)
            candidates = reading.candidates()
            keeps = [spot for spot in candidates if random.random() < 0.5]
            random.shuffle(keeps)
            spots = reading.known(set(keeps))
            for stop in range(len(stretch.stops())):
                self.assertEqual(known(stretch, keeps, stop), sorted(value for value, at in spots if at == stop))
            self.assertEqual(missing(stretch, tuple(keeps)), reading.missing(set(keeps)))

    def test_invalid_keeps(self):
        for value in ODD_VALUES:
            if not isinstance(value, (list, tuple)):
                for function in (lambda: known(STRETCH, value, None), lambda: missing(STRETCH, value)):
                    check_error(self, InvalidKeeps, {"position": None}, function)
        wrong = [*ODD_VALUES, 0, [0, 0], (0,), (0, 0, 0), (0, 2), (0, -1), (0, True), (False, 0), ("0", 0), (0, "0"), (None, 0), (0, None),
                 (3, 0), (2, 0), (4, 1), (-1, 0), ((0,), 0), (1, 1), (10 ** 20, 0)]
        for value in wrong:
            keeps = [(0, 1), (1, 1), value, None]
            check_error(self, InvalidKeeps, {"position": 2}, known, STRETCH, keeps, None)
            check_error(self, InvalidKeeps, {"position": 2}, missing, STRETCH, tuple(keeps))
        check_error(self, InvalidKeeps, {"position": 1}, missing, STRETCH, [(0, 0), (0, 0)])
        check_error(self, InvalidKeeps, {"position": 0}, missing, Stretch([]), [(0, 0)])

    def test_unknown_stops(self):
        for stop in (*ODD_VALUES, -1, 2, 10 ** 20, "0"):
            check_error(self, UnknownStop, {"stop_number": stop}, known, STRETCH, [(0, 0)], stop)

    def test_passed_values_stay(self):
        keeps = [(1, 1), (0, 0)]
        known(STRETCH, keeps, 0).append(9)
        self.assertIsNotNone(missing(STRETCH, keeps))
        check_same(self, [keeps, known(STRETCH, keeps, 0), known(STRETCH, keeps, 0)], [[(1, 1), (0, 0)], [0, 2], [0, 2]])


class LeastKeepsTest(unittest.TestCase):
    def test_known_cases(self):
        check_same(self, least_keeps(stretch=DEAD), [(0, 0), (0, 1), (0, 2)])
        check_same(self, least_keeps(Stretch([])), [])
        check_same(self, least_keeps(Stretch([("leaf", 0), ("stop", "s", (0,))], [0])), [])
        # Two sums of two leaves: the leaves at the stop that asks for both and for one leaf, and the sum behind it.
        rows = [("leaf", 0), ("leaf", 1), ("set", 2, (0, 1)), ("set", 3, (0, 1)), ("stop", "a", (2, 3, 0)), ("stop", "b", (2,))]
        check_same(self, least_keeps(Stretch(rows)), [(0, 0), (1, 0), (2, 1)])

    def test_the_fewest_are_lost(self):
        # One tuple is enough, at the leaf, at what is computed from it, or at what is computed from that.
        rows = [("leaf", 0), ("set", 1, (0,)), ("set", 2, (1,)), ("stop", "a", (2,))]
        check_same(self, least_keeps(Stretch(rows)), [(0, 0)])
        rows = [("leaf", 0), ("leaf", 5), ("set", 1, (0, 5)), ("set", 2, (1,)), ("stop", "a", (2,)), ("stop", "b", (2,))]
        check_same(self, least_keeps(Stretch(rows)), [(1, 0), (1, 1)])

    def test_among_all_keeps(self):
        random = Random(350)
        tested = {}
        while sum(tested.values()) < 500:
            stretch = random_stretch(random, random.randint(4, 12))
            reading = Reading(stretch)
            candidates = reading.candidates()
            if len(candidates) < 11:
                found = least_keeps(stretch)
                self.check_least(reading, candidates, found)
                tested[len(found)] = tested.get(len(found), 0) + 1
        self.assertGreater(min(tested.get(size, 0) for size in range(5)), 5)

    def check_least(self, reading, candidates, found):
        self.assertIsNone(reading.missing(set(found)))
        for size in range(len(found)):
            self.assertTrue(all(reading.missing(set(keeps)) is not None for keeps in combinations(candidates, size)))
        lost = reading.lost(set(found))
        for keeps in combinations(candidates, len(found)):
            if reading.missing(set(keeps)) is None:
                self.assertTrue(list(keeps) == found or lost < reading.lost(set(keeps)))

    def test_as_many_as_the_ways_of_a_certificate(self):
        random = Random(351)
        most = 0
        for _ in range(60):
            stretch = random_stretch(random, random.randint(30, 120), 6)
            keeps, ways = least_keeps(stretch), certificate(stretch)
            reading = Reading(stretch)
            self.assertIsNone(missing(stretch, keeps))
            self.assertEqual(keeps, sorted(keeps))
            self.check_ways(reading, ways, keeps)
            self.assertTrue(is_certificate(stretch, ways))
            self.assertEqual([least_keeps(stretch), certificate(stretch)], [keeps, ways])
            most = max(most, len(keeps))
        self.assertGreater(most, 50)

    def check_ways(self, reading, ways, keeps):
        self.assertEqual(len(ways), len(keeps))
        gates = [gate for way in ways for gate in reading.gates(way)]
        self.assertEqual(len(gates), len(set(gates)))
        for way in ways:
            self.assertTrue(reading.is_way(way))
            self.assertEqual(len(set(keeps).intersection(reading.gates(way))), 1)

    def test_codes(self):
        for made in random_programs(352, 30):
            for names in ((), ("inline", "spread", "share", "drop", "ask", "hoist")):
                for code in optimized_book(made, *names).values():
                    stretch = stretch_of(code)
                    self.check_ways(Reading(stretch), certificate(stretch), least_keeps(stretch))

    def test_long_chains(self):
        rows = [("leaf", 0), *[("set", at, (at - 1,)) for at in range(1, 150)], *[("stop", "s", (149,))] * 140]
        stretch = Stretch(rows)
        check_same(self, least_keeps(stretch), [(0, stop) for stop in range(140)])
        self.assertTrue(is_certificate(stretch, certificate(stretch)))


class CertificateTest(unittest.TestCase):
    def setUp(self):
        self.ways = [[(0, 0), (0, 1)], [(0, 1)], [(1, 1), (2, 1)]]

    def test_fewer_ways_and_other_kinds_of_lists(self):
        for ways in ([], (), self.ways[:2], self.ways[1:], tuple(tuple(way) for way in self.ways), list(reversed(self.ways))):
            self.assertIs(is_certificate(stretch=STRETCH, value=ways), True)
        self.assertIs(is_certificate(STRETCH, [[(1, 0), (1, 1), (2, 1)]]), True)
        self.assertIs(is_certificate(STRETCH, [[(0, 1), (2, 1)]]), True)

    def test_wrong_ways(self):
        for way in ([], [(0, 0)], [(1, 1)], [(2, 1)], [(0, 1), (0, 1)], [(0, 1), (0, 0)], [(0, 0), (0, 1), (0, 1)], [(0, 0), (1, 1), (2, 1)],
                    [(0, 0), (2, 1)], [(0, 0), (2, 0)], [(1, 0), (2, 0), (2, 1)], [(3, 1)], [(1, 1), (3, 1), (2, 1)], [(0, 2)], [(0, -1), (0, 0), (0, 1)],
                    [(1, 1), (0, 1)], [(0, False), (0, True)], [(False, 1)], [[0, 1]], [(0, 1, 1)], [(0,)], [0, 1], (0, 1), [None], None, 5, "", {},
                    [(9, 1)], [("0", 1)], [((0,), 1)], [[]]):
            self.assertIs(is_certificate(STRETCH, [way]), False, way)
            self.assertIs(is_certificate(STRETCH, [*self.ways, way]), False, way)
        for value in ODD_VALUES:
            self.assertIs(is_certificate(STRETCH, value), value in ([], ()) and value is not False, value)
        self.assertIs(is_certificate(STRETCH, 0), False)

    def test_gates_of_two_ways(self):
        for extra in self.ways:
            self.assertIs(is_certificate(STRETCH, [*self.ways, extra]), False)
        self.assertIs(is_certificate(STRETCH, [[(0, 1)], [(0, 1), (2, 1)]]), False)
        self.assertIs(is_certificate(STRETCH, [[(0, 1), (2, 1)], [(1, 1), (2, 1)]]), False)
        # Behind its gate a tuple may be in several ways.
        rows = [("leaf", 0), *[("stop", "s", ())] * 2, ("set", 1, (0,)), ("set", 2, (0,)), ("stop", "t", (1, 2, 0))]
        stretch = Stretch(rows)
        ways = [[(0, 2)], [(0, 2), (1, 2)]]
        self.assertIs(is_certificate(stretch, ways), False)
        self.assertIs(is_certificate(stretch, ways[1:]), True)
        dead = Stretch([("leaf", 0), ("stop", "s", ()), ("stop", "s", (0,)), ("stop", "t", (0,))])
        self.assertIs(is_certificate(dead, [[(0, 0), (0, 1)], [(0, 1)], [(0, 2)]]), True)
        self.assertIs(is_certificate(dead, [[(0, 0), (0, 1), (0, 2)], [(0, 1), (0, 2)], [(0, 2)]]), True)

    def test_live_gates(self):
        stretch = Stretch([("leaf", 0), ("set", 1, (0,)), ("stop", "a", (0, 1)), ("use", (1,)), ("stop", "b", (0, 1))])
        self.assertIs(is_certificate(stretch, [[(0, 0)]]), True)
        self.assertIs(is_certificate(stretch, [[(0, 0), (1, 0)]]), False)
        self.assertIs(is_certificate(stretch, [[(0, 1), (1, 1)]]), True)

    def test_changed_certificates(self):
        random = Random(36)
        verdicts = {True: 0, False: 0}
        for _ in range(600):
            stretch = random_stretch(random, random.randint(8, 25), 5)
            reading = Reading(stretch)
            ways = certificate(stretch)
            for _ in range(8 if ways and reading.spots else 0):
                changed = [list(way) for way in ways]
                way = random.choice(changed)
                at = random.randrange(len(way))
                kind = random.choice(("more", "less", "twice", "other", "way"))
                if kind in ("more", "other"):
                    way[at:at + (kind == "other")] = [random.choice(reading.spots)]
                elif kind == "way":
                    changed.append(random.choice(changed)[random.randint(0, 1):])
                else:
                    way[at:at + 1] = [way[at]] * (2 if kind == "twice" else 0)
                gates = [gate for one in changed for gate in reading.gates(one)]
                right = all(reading.is_way(one) for one in changed) and len(gates) == len(set(gates))
                self.assertIs(is_certificate(stretch, changed), right)
                verdicts[right] += 1
        self.assertGreater(min(verdicts.values()), 20)


if __name__ == "__main__":
    unittest.main()
