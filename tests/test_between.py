"""Amounts with small numbers within limits, and tableaus that take care not to go in a ring."""

import unittest
from fractions import Fraction
from random import Random
from unittest.mock import patch

from leastlog import simplex
from leastlog.amounts import Amount
from leastlog.between import simplest_within
from test_regions import RegionCheck, random_form, KINDS


class BetweenTest(unittest.TestCase):
    def test_simplest_amounts(self):
        random = Random(3)
        for _ in range(300):
            ends = sorted(Fraction(random.randint(-60, 60), random.randint(1, 20)) for _ in range(2))
            low, high = [random.choice((end, end, end, None)) for end in ends]
            if low == high:
                continue
            limits = [(Amount(end.numerator, end.denominator), way) for end, way in ((low, -1), (high, 1)) if end is not None]
            found = simplest_within(limits)
            value = Fraction(found.top, found.bottom)
            self.assertTrue((low is None or low < value) and (high is None or value < high))
            for bottom in range(1, found.bottom):
                inside = [top for top in range(-60 * bottom, 60 * bottom)
                          if low < Fraction(top, bottom) < high]
                self.assertEqual(inside, [])

    def test_several_limits(self):
        def found(*limits):
            return simplest_within([(Amount(top, bottom), way) for top, bottom, way in limits])
        self.assertEqual(found(), Amount(0))
        self.assertEqual(found((0, 1, 0)), Amount(1))
        self.assertEqual(found((0, 1, -1), (1, 1, 0), (2, 1, 0)), Amount(3))
        self.assertEqual(found((0, 1, -1), (-5, 1, -1), (9, 1, 1), (1, 1, 1)), Amount(1, 2))
        self.assertEqual(found((-3, 1, -1), (-1, 1, 1)), Amount(-2))
        self.assertEqual(found((-1, 1, -1), (0, 1, 1), (-1, 2, 0)), Amount(-1, 3))
        self.assertEqual(found((1, 3, -1), (1, 2, 1)), Amount(2, 5))


class CarefulStepsTest(RegionCheck):
    def test_regions_by_careful_steps(self):
        random = Random(12)
        with patch.object(simplex, "MOST_IDLE_STEPS", -1):
            for _ in range(200):
                conditions = [random.choices(KINDS, (1, 1, 2, 5))[0](random_form(random, ["u", "v", "w", "x"], 1))
                              for _ in range(random.randint(3, 9))]
                self.check_region(conditions, [], random_form(random, ["u", "v", "w", "z"], 1))


if __name__ == "__main__":
    unittest.main()
