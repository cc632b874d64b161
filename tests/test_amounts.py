"""[5] Amounts."""

import unittest
from fractions import Fraction
from random import Random

from helpers import ODD_VALUES, check_error

from leastlog.amounts import Amount
from leastlog.errors import InvalidAmount
from leastlog.failures import ZeroDivisor

LARGE = 10 ** 40 + 7
TOPS = (0, 1, -1, 2, -3, 12, -18, 10 ** 30, -LARGE)
BOTTOMS = (1, -1, 2, -4, 9, 10 ** 20, LARGE)


def parts(value):
    """The top and the bottom of an Amount or a Fraction."""
    if isinstance(value, Fraction):
        return value.numerator, value.denominator
    return value.top, value.bottom


class AmountsTest(unittest.TestCase):
    def pairs(self):
        return [(Amount(top, bottom), Fraction(top, bottom)) for top in TOPS for bottom in BOTTOMS]

    def test_lowest_terms_and_sign(self):
        for amount, fraction in self.pairs():
            self.assertEqual(parts(amount), parts(fraction))
            self.assertEqual(amount.sign, (fraction > 0) - (fraction < 0))
            self.assertIs(type(amount.sign), int)
        self.assertEqual(parts(Amount(6)), (6, 1))
        self.assertEqual(parts(Amount(bottom=-4, top=6)), (-3, 2))

    def test_operations_with_amounts(self):
        for one, fraction in self.pairs():
            for other, second in self.pairs()[::3]:
                self.assertEqual(parts(one + other), parts(fraction + second))
                self.assertEqual(parts(one - other), parts(fraction - second))
                self.assertEqual(parts(one * other), parts(fraction * second))
                self.assertIs(one.below(other), fraction < second)
                self.assertIs(one == other, fraction == second)
                self.assertIs(one != other, fraction != second)
                if second:
                    self.assertEqual(parts(one.over(other)), parts(fraction / second))
            self.assertEqual(parts(-one), parts(-fraction))

    def test_operations_with_integers(self):
        for one, fraction in self.pairs():
            for other in TOPS:
                self.assertEqual(parts(one + other), parts(fraction + other))
                self.assertEqual(parts(one - other), parts(fraction - other))
                self.assertEqual(parts(one * other), parts(fraction * other))
                self.assertIs(one.below(other=other), fraction < other)
                if other:
                    self.assertEqual(parts(one.over(divisor=other)), parts(fraction / other))

    def test_random_operations(self):
        random = Random(5)
        for _ in range(300):
            tops = [random.randint(-10 ** 30, 10 ** 30) for _ in range(2)]
            bottoms = [random.choice([-1, 1]) * random.randint(1, 10 ** random.randint(0, 30)) for _ in range(2)]
            one, other = Amount(tops[0], bottoms[0]), Amount(tops[1], bottoms[1])
            first, second = Fraction(tops[0], bottoms[0]), Fraction(tops[1], bottoms[1])
            self.assertEqual(parts(one + other), parts(first + second))
            self.assertEqual(parts(one - other), parts(first - second))
            self.assertEqual(parts(one * other), parts(first * second))
            self.assertEqual(one.below(other), first < second)

    def test_amounts_stay_as_they_were(self):
        one, other = Amount(3, 4), Amount(-5, 6)
        one + other, one - other, one * other, -one, one.over(other), one.below(other), str(one), repr(one)
        self.assertEqual([parts(one), parts(other)], [(3, 4), (-5, 6)])

    def test_equality(self):
        self.assertEqual(Amount(2, 4), Amount(-1, -2))
        self.assertNotEqual(Amount(1, 2), Amount(-1, 2))
        self.assertNotEqual(Amount(1, 2), Amount(1, 3))
        for other in (1, True, "1", None, Fraction(1), (1, 1), [1]):
            self.assertFalse(Amount(1) == other)
            self.assertTrue(Amount(1) != other)
        self.assertFalse(Amount(0) == 0)
        self.assertFalse(Amount(0) == False)  # noqa: E712

    def test_texts(self):
        texts = [str(Amount(0, 5)), str(Amount(6, -4)), str(Amount(-7)), str(Amount(LARGE, 2)), str(Amount(12, 4))]
        self.assertEqual(texts, ["0", "-3/2", "-7", f"{LARGE}/2", "3"])
        self.assertEqual([repr(Amount(3, 4)), repr(Amount(-2)), repr(Amount(0, 9))],
                         ["Amount(3, 4)", "Amount(-2, 1)", "Amount(0, 1)"])

    def test_wrong_parts(self):
        for value in (*ODD_VALUES, Amount(1)):
            check_error(self, InvalidAmount, {"value": value}, Amount, value)
            check_error(self, InvalidAmount, {"value": value}, Amount, 3, value)
            check_error(self, InvalidAmount, {"value": value}, Amount, value, 0)
            check_error(self, InvalidAmount, {"value": value}, Amount, value, None)
        check_error(self, InvalidAmount, {"value": 0}, Amount, 3, 0)
        check_error(self, InvalidAmount, {"value": False}, Amount, 3, False)
        check_error(self, InvalidAmount, {"value": 0}, Amount, bottom=0, top=0)

    def test_wrong_operands(self):
        one = Amount(3, 4)
        for value in ODD_VALUES:
            for call in (one.__add__, one.__sub__, one.__mul__, one.over, one.below):
                check_error(self, InvalidAmount, {"value": value}, call, value)
            check_error(self, InvalidAmount, {"value": value}, lambda: one + value)
            check_error(self, InvalidAmount, {"value": value}, lambda: one - value)
            check_error(self, InvalidAmount, {"value": value}, lambda: one * value)
        self.assertEqual(parts(one), (3, 4))

    def test_zero_divisor(self):
        for zero in (0, Amount(0), Amount(0, -3)):
            check_error(self, ZeroDivisor, {}, Amount(3, 4).over, zero)
            check_error(self, ZeroDivisor, {}, Amount(0).over, zero)
        check_error(self, InvalidAmount, {"value": False}, Amount(0).over, False)


if __name__ == "__main__":
    unittest.main()
