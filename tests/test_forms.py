"""[6], [7] Forms."""

import unittest

from helpers import ODD_VALUES, check_error, check_same, form

from leastlog.amounts import Amount
from leastlog.errors import InvalidAmount, InvalidForm, InvalidPoint, InvalidSymbol, InvalidTerms
from leastlog.failures import UnknownSymbol, ZeroDivisor
from leastlog.forms import Form, is_symbol

NO_SYMBOLS = ("", "1", "123", "9" * 24, "A", "aB", "a b", "a_", "-a", "a" * 25, "a\n", "1-", 1, True, None, ("a",),
              ["a"], b"a", {"a": 1})
SYMBOLS = ("a", ".", "1.", ".1", "a1", "1a", "till.box.1", "z" * 24, "1" * 23 + ".", "1" * 23 + "a", "3.1", "..")
WRONG_POINTS = (None, [], (), [("a", 1)], "a", 1, True, {"A": 1}, {"a": True}, {"a": None}, {"a": "1"}, {1: 1},
                {"a": 1, "b": []}, {("a",): 1}, {None: 1}, {"1": 1})


class SymbolsTest(unittest.TestCase):
    def test_symbols(self):
        for value in SYMBOLS:
            self.assertIs(is_symbol(value), True, value)
            self.assertEqual(Form.symbol(value), Form(0, {value: 1}))
        for value in NO_SYMBOLS:
            self.assertIs(is_symbol(value=value), False, value)
            check_error(self, InvalidSymbol, {"value": value}, Form.symbol, value)
            check_error(self, InvalidSymbol, {"value": value}, Form().weight, value)


class FormsTest(unittest.TestCase):
    def test_parts(self):
        one = Form(Amount(1, 2), {"b": 2, "a": Amount(-1, 3), "c": 0, "d": Amount(0)})
        check_same(self, one.constant_part, Amount(1, 2))
        check_same(self, one.symbols(), ["a", "b"])
        check_same(self, [one.weight("a"), one.weight(symbol="b"), one.weight("c"), one.weight("z")],
                   [Amount(-1, 3), Amount(2), Amount(0), Amount(0)])
        self.assertIs(one.is_constant, False)
        check_same(self, one.linear_part, Form(0, {"a": Amount(-1, 3), "b": 2}))
        self.assertIs(Form(3, {"a": 0}).is_constant, True)
        check_same(self, Form(3).linear_part, Form())
        check_same(self, Form(3).constant_part, Amount(3))
        check_same(self, Form().symbols(), [])

    def test_of(self):
        check_same(self, Form.of(3, a=2), Form(3, {"a": 2}))
        check_same(self, Form.of(), Form())
        check_same(self, Form.of(constant=Amount(1, 2), z=1, b=0), Form(Amount(1, 2), {"z": 1}))
        check_same(self, Form.of(1, **{"3.1": 5}), Form(1, {"3.1": 5}))

    def test_passed_and_returned_values_are_apart(self):
        weights = {"b": 1, "a": Amount(2)}
        one = Form(0, weights)
        weights["c"] = 5
        del weights["a"]
        one.symbols().append("z")
        self.assertEqual(str(one), "2 a + b")
        point = {"b": 1, "a": 5, "c": 7}
        one.value_at(point)
        one.replaced(point)
        check_same(self, point, {"b": 1, "a": 5, "c": 7})

    def test_order_of_keys_has_no_effect(self):
        one, other = Form(1, {"a": 1, "b": 2, "c": 3}), Form(1, {"c": 3, "b": 2, "a": 1})
        self.assertEqual(one, other)
        self.assertEqual(str(one), str(other))
        self.assertEqual(one.symbols(), other.symbols())

    def test_value_at(self):
        one = form("1/2", a=2, b="-1/3")
        check_same(self, one.value_at({"b": 3, "a": Amount(1, 4), "z": 9}), Amount(0))
        check_same(self, one.value_at(point={"a": 0, "b": 0}), Amount(1, 2))
        check_same(self, Form(7).value_at({}), Amount(7))
        check_error(self, UnknownSymbol, {"name": "a"}, one.value_at, {})
        check_error(self, UnknownSymbol, {"name": "b"}, one.value_at, {"a": 1, "c": 1})
        check_error(self, UnknownSymbol, {"name": "a"}, one.value_at, {"b": 1})

    def test_replaced(self):
        one = form(1, a=2, b=3)
        check_same(self, one.replaced({"a": Form.symbol("b"), "b": Form.symbol("a")}), form(1, a=3, b=2))
        check_same(self, one.replaced({"a": form(5, b=1, c=1)}), form(11, b=5, c=2))
        check_same(self, one.replaced(forms={"a": 2, "b": Amount(-5, 3), "z": 9}), Form(0))
        check_same(self, one.replaced({}), one)
        check_same(self, one.replaced({"a": form(0, a=1, b="-3/2")}), form(1, a=2))

    def test_operations(self):
        one, other = form(1, a=2, b="1/2"), form("-1/2", b="-1/2", c=1)
        check_same(self, one + other, form("1/2", a=2, c=1))
        check_same(self, one - other, form("3/2", a=2, b=1, c=-1))
        check_same(self, one - one, Form())
        check_same(self, one + 3, form(4, a=2, b="1/2"))
        check_same(self, one - Amount(1, 2), form("1/2", a=2, b="1/2"))
        check_same(self, one * -2, form(-2, a=-4, b=-1))
        check_same(self, one * Amount(0), Form())
        check_same(self, -one, form(-1, a=-2, b="-1/2"))
        check_same(self, one.over(2), form("1/2", a=1, b="1/4"))
        check_same(self, one.over(divisor=Amount(-1, 2)), form(-2, a=-4, b=-1))
        check_same(self, [str(one), str(other)], ["1 + 2 a + 1/2 b", "-1/2 - 1/2 b + c"])
        self.assertEqual((one + other).symbols(), ["a", "c"])

    def test_equality(self):
        self.assertEqual(form(1, a=2), Form(1, {"a": Amount(4, 2), "b": 0}))
        for other in (form(1, a=1), form(2, a=2), form(1, b=2), form(1, a=2, b=1)):
            self.assertNotEqual(form(1, a=2), other)
        for other in (1, Amount(1), "1", None, True, [1]):
            self.assertFalse(Form(1) == other)

    def test_texts(self):
        rows = [
            (Form(), "0"), (Form(-3), "-3"), (form("1/2"), "1/2"), (form(0, a=1), "a"), (form(0, a=-1), "-a"),
            (form(3, a=2, b="-1/2"), "3 + 2 a - 1/2 b"), (form(-3, a=-1, b=1), "-3 - a + b"),
            (form(0, b=3, a="-3/4"), "-3/4 a + 3 b"), (form("-1/3", z="1/3"), "-1/3 + 1/3 z"),
            (Form(0, {"a.1": 1, "a": 1, "a1": -1, "3.1": 2}), "2 3.1 + a + a.1 - a1"),
        ]
        for one, text in rows:
            self.assertEqual(str(one), text)
            self.assertEqual(repr(one), f"Form({text})")

    def test_wrong_forms(self):
        for value in ODD_VALUES:
            check_error(self, InvalidAmount, {"value": value}, Form, value)
            check_error(self, InvalidAmount, {"value": value}, Form, value, "terms")
            check_error(self, InvalidAmount, {"value": value}, Form.of, value, A=1)
            if value is not None and not isinstance(value, dict):
                check_error(self, InvalidTerms, {"value": value}, Form, 0, value)
        for value in WRONG_POINTS[1:]:
            check_error(self, InvalidTerms, {"value": value}, Form, 0, value)
        check_error(self, InvalidTerms, {"value": {"a": Form()}}, Form, weights={"a": Form()})

    def test_wrong_options(self):
        check_error(self, InvalidSymbol, {"value": "A"}, Form.of, 0, a=True, A=1)
        check_error(self, InvalidAmount, {"value": True}, Form.of, 0, a=True, b_=1)
        check_error(self, InvalidSymbol, {"value": "a_"}, Form.of, 0, a=1, a_=True, b=True)
        check_error(self, InvalidAmount, {"value": "x"}, Form.of, 0, c=None, b="x")

    def test_wrong_operands(self):
        one = form(1, a=2)
        for value in ODD_VALUES:
            check_error(self, InvalidForm, {"value": value}, lambda: one + value)
            check_error(self, InvalidForm, {"value": value}, lambda: one - value)
            check_error(self, InvalidAmount, {"value": value}, lambda: one * value)
            check_error(self, InvalidAmount, {"value": value}, one.over, value)
        check_error(self, InvalidAmount, {"value": one}, lambda: one * one)
        check_error(self, InvalidAmount, {"value": one}, one.over, one)
        check_error(self, InvalidAmount, {"value": one}, lambda: Amount(1) + one)
        check_error(self, ZeroDivisor, {}, one.over, 0)
        check_error(self, ZeroDivisor, {}, one.over, Amount(0))

    def test_wrong_points(self):
        for value in WRONG_POINTS:
            check_error(self, InvalidPoint, {"value": value}, form(1, z=2).value_at, value)
            check_error(self, InvalidPoint, {"value": value}, form(1, z=2).replaced, value)
        check_error(self, InvalidPoint, {"value": {"a": Form()}}, form(1, a=2).value_at, {"a": Form()})


if __name__ == "__main__":
    unittest.main()
