"""[10] Conditions."""

import unittest

from helpers import ODD_VALUES, check_error, check_same, form

from leastlog.amounts import Amount
from leastlog.conditions import Condition, Negative, NonPositive, NonZero, Zero
from leastlog.errors import InvalidForm, InvalidPoint
from leastlog.failures import UnknownSymbol
from leastlog.forms import Form

KINDS = (Zero, NonZero, Negative, NonPositive)
# For each kind whether it holds where its form is below 0, is 0, is above 0.
TRUTHS = {Zero: [False, True, False], NonZero: [True, False, True],
          Negative: [True, False, False], NonPositive: [True, True, False]}
POINTS = ({"a": 2}, {"a": 3, "b": 9}, {"a": Amount(7, 2)})


class ConditionsTest(unittest.TestCase):
    def test_kinds(self):
        for kind in KINDS:
            self.assertEqual(kind.__bases__, (Condition,))
            self.assertIsInstance(kind(Form()), Condition)
            check_same(self, kind(form=form(-3, a=1)).form, form(-3, a=1))
        self.assertEqual([kind.SIGN for kind in KINDS], ["=", "!=", "<", "<="])
        self.assertEqual([kind(Form()).SIGN for kind in KINDS], ["=", "!=", "<", "<="])

    def test_holds_at(self):
        for kind in KINDS:
            check_same(self, [kind(form(-3, a=1)).holds_at(point) for point in POINTS], TRUTHS[kind])
            check_same(self, kind(Form()).holds_at(point={}), TRUTHS[kind][1])

    def test_denied(self):
        one = form(-3, a=1)
        check_same(self, [kind(one).denied() for kind in KINDS],
                   [NonZero(one), Zero(one), NonPositive(-one), Negative(-one)])
        for kind in KINDS:
            check_same(self, kind(one).denied().denied(), kind(one))
            for point in POINTS:
                self.assertIs(kind(one).denied().holds_at(point), not kind(one).holds_at(point))

    def test_replaced(self):
        forms = {"a": form(1, b=1), "b": Form.symbol("a"), "c": 5}
        for kind in KINDS:
            one = kind(form(-3, a=1, b=2))
            check_same(self, one.replaced(forms), kind(form(-2, a=2, b=1)))
            check_same(self, one.replaced(forms={"a": 3}), kind(form(0, b=2)))
            check_same(self, one, kind(form(-3, a=1, b=2)))

    def test_equality(self):
        for kind in KINDS:
            for other in KINDS:
                self.assertIs(kind(form(1, a=2)) == other(form(1, a=2)), kind is other)
            self.assertNotEqual(kind(form(1, a=2)), kind(form(2, a=4)))
            for other in (form(1, a=2), "1 + 2 a = 0", None, 0, True):
                self.assertFalse(kind(form(1, a=2)) == other)

    def test_texts(self):
        one = form(-3, a=1)
        self.assertEqual([str(kind(one)) for kind in KINDS],
                         ["-3 + a = 0", "-3 + a != 0", "-3 + a < 0", "-3 + a <= 0"])
        self.assertEqual([repr(kind(one)) for kind in KINDS],
                         ["Zero(-3 + a)", "NonZero(-3 + a)", "Negative(-3 + a)", "NonPositive(-3 + a)"])
        self.assertEqual([str(Zero(Form())), repr(Zero(Form()))], ["0 = 0", "Zero(0)"])

    def test_wrong_values(self):
        for kind in KINDS:
            for value in (*ODD_VALUES, 1, Amount(1), Zero(Form())):
                check_error(self, InvalidForm, {"value": value}, kind, value)
            one = kind(form(0, a=1, b=1))
            for value in (None, [], "a", {"A": 1}, {"a": True}, {1: 1}, {"a": None}):
                check_error(self, InvalidPoint, {"value": value}, one.holds_at, value)
                check_error(self, InvalidPoint, {"value": value}, one.replaced, value)
            check_error(self, UnknownSymbol, {"name": "a"}, one.holds_at, {})
            check_error(self, UnknownSymbol, {"name": "b"}, one.holds_at, {"a": 1, "c": 1})

    def test_example(self):
        one = Form.of(-3, a=1)
        found = [Negative(one), str(Negative(one)), Negative(one).denied(), Zero(one).denied(), Zero(one).SIGN,
                 Zero(one).form == one, Zero(one) == Zero(one * 2)]
        self.assertEqual(repr(found), "[Negative(-3 + a), '-3 + a < 0', NonPositive(3 - a), NonZero(-3 + a), '=', "
                                      "True, False]")


if __name__ == "__main__":
    unittest.main()
