"""[28], [29] Codes."""

import unittest

from cases import random_programs
from codechecks import CodeCheck, each_row, tolds_of
from helpers import ODD_VALUES, check_error, check_same, form

from leastlog.amounts import Amount
from leastlog.codes import Code
from leastlog.failures import UnknownPath, UnknownValue
from leastlog.forms import Form
from leastlog.translating import book_of

ONE, ZERO = Amount(1), Amount(0)


def told(value):
    return "form", ZERO, ((value, ONE),)


# A code with every kind of row; its values are numbered in no order.
ROWS = (
    ("stop", (("m.p", "0", 0),), ((("a", told(9)), ("n", ("value", 4)), ("k", ("known", 7))),)),
    ("known", 30, 2), ("known", 31, True), ("op", 32, "+", (30, 4)), ("op", 33, "below", (32, 4)),
    ("form", 40, Amount(3), ((9, Amount(2)),)), ("scale", 41, 40, 4), ("share", 42, 41, 30), ("read", 43, "m.c", None),
    ("read", 44, "m.r", 30), ("form", 45, Amount(-1, 2), ((40, Amount(1, 2)), (43, Amount(-1)))), ("write", "m.c", None, 45),
    ("write", "m.r", 30, 45), ("test", 46, "less", 45, 9), ("call", ((47, "amount"), (48, "truth")), "m.q", (9, 4)),
    ("if", 46, (("form", 50, ZERO, ((47, ONE),)),), (50, 30), (), (9, 4), (51, 52)),
    ("repeat", 4, 60, (61, 62), (51, 31), (
        ("while", 3, (70,), (61,), (("test", 71, "same", 70, 61),), 71, (
            ("stop", (("m.p", "1.a.0.a.0", 1), ("m.q", "0", 1)),
             ((("a", ("form", ONE, ((45, Amount(-3)), (70, ONE)))),), (("b", told(70)), ("t", ("value", 62)))),),
            ("form", 72, ONE, ((61, Amount(2)), (70, Amount(2)))),
        ), (72,), (73,)),
    ), (73, 48), (63, 64)),
    ("give", (63, 52)),
)
CODE = Code("m.p", ((9, "amount"), (4, "count")), ROWS)
STOPS = [(0,), (16, 0, 0, 1, 0)]


class PathsTest(unittest.TestCase):
    def test_asked(self):
        self.assertEqual([CODE.asked(path) for path in STOPS], [[4, 9], [45, 62, 70]])
        self.assertEqual(CODE.asked(path=STOPS[0]), [4, 9])
        CODE.asked((0,)).clear()
        self.assertEqual(CODE.asked((0,)), [4, 9])

    def test_unknown_paths(self):
        self.assertEqual(Code("m.p", (), (("known", 0, 1), ("give", ()))).parameters, ())
        wrong = [*ODD_VALUES, 0, "0", [0], (1,), (17,), (18,), (-1,), (True,), (False,), (None,), ("0",), ((0,),), (0, 0, 0), (15, 0),
                 (15, 0, 0), (15, 2, 0), (16, 1, 0), (16, 0, 0), (16, 0, 0, 0), (16, 0, 0, 0, 0), (16, 0, 0, 1, 1), (16, 0, 0, 2, 0),
                 (16, 0, 0, True, 0), (16, False, 0, 1, 0), (16, 0, 0, 1, 0, 0), (16, 0, 0, 1, 0, 0, 0), (-2, 0, 0, 1, 0),
                 (16, 0, 0, -1, 0), [16, 0, 0, 1, 0], (16, 0, 0, 1, -2), (0,) * 299]
        for value in wrong:
            check_error(self, UnknownPath, {"where": value}, CODE.asked, value)

    def test_all_paths_of_random_codes(self):
        for made in random_programs(29, 25):
            for code in book_of(made).values():
                stops = dict(paths(code.rows))
                rows = [row for row, _ in each_row(code.rows)]
                self.assertEqual(len(code), len(rows))
                self.assertEqual([row for _, row in stops.items() if row[0] == "stop"], [row for row in rows if row[0] == "stop"])
                for path, row in stops.items():
                    if row[0] == "stop":
                        values = {value for one in tolds_of(row) for value in asked(one)}
                        check_same(self, code.asked(path), sorted(values))
                    else:
                        check_error(self, UnknownPath, {"where": path}, code.asked, path)


def asked(one):
    return [value for value, _ in one[2]] if one[0] == "form" else [one[1]] if one[0] == "value" else []


def paths(rows, ahead=()):
    """The rows by their paths."""
    for position, row in enumerate(rows):
        yield (*ahead, position), row
        places = {"if": (2, 4), "repeat": (5,), "while": (4, 6)}.get(row[0], ())
        for number, place in enumerate(places):
            yield from paths(row[place], (*ahead, position, number))


class FormsTest(unittest.TestCase):
    def test_forms_over_leaves(self):
        leaves = {value: Form.symbol(f"v{value}") for value in (9, 41, 42, 43, 44, 47, 51, 61, 63, 70, 73)}
        forms = {40: form(3, v9=2), 45: form(1, v9=1, v43=-1), 50: form(v47=1), 72: form(1, v70=2, v61=2)}
        for value, found in {**leaves, **forms}.items():
            check_same(self, CODE.form_over_leaves(value), found)
        check_same(self, CODE.form_over_leaves(value=45), forms[45])
        for value in (*ODD_VALUES, 4, 30, 31, 32, 33, 46, 48, 52, 60, 62, 64, 71, 0, 1, -1, 99, "v9", (9,), [9]):
            check_error(self, UnknownValue, {"value": value}, CODE.form_over_leaves, value)

    def test_parts_that_cancel(self):
        rows = (("form", 1, ONE, ((0, Amount(2)),)), ("form", 2, ZERO, ((0, Amount(-2)), (1, ONE))), ("give", (2,)))
        check_same(self, Code("m.p", ((0, "amount"),), rows).form_over_leaves(2), Form(1))

    def test_true_is_no_value(self):
        code = Code("m.p", ((0, "amount"), (1, "amount")), (("give", (0,)),))
        check_same(self, code.form_over_leaves(1), form(v1=1))
        for value in (True, False):
            check_error(self, UnknownValue, {"value": value}, code.form_over_leaves, value)


class EqualityTest(unittest.TestCase):
    def test_equal(self):
        parameters = ((0, "count"),)
        rows = (("known", 1, 1), ("give", (1,)))
        code = Code(procedure="m.p", parameters=parameters, rows=rows)
        self.assertEqual(code, Code("m.p", parameters, rows))
        self.assertEqual([code.procedure_text, code.parameters, code.rows], ["m.p", parameters, rows])
        others = [Code("m.q", parameters, rows), Code("m.p", ((0, "truth"),), rows), Code("m.p", (), rows),
                  Code("m.p", parameters, rows[1:]), Code("m.p", parameters, (("known", 1, True), ("give", (1,)))),
                  Code("m.p", parameters, (("known", 1, 1), ("give", (True,)))), Code("m.p", ((False, "count"),), rows)]
        for other in (*others, rows, None, 1, "m.p", "Code('m.p', 2)", True):
            self.assertFalse(code == other)
            self.assertTrue(code != other)
        truths = Code("m.p", (), (("known", 0, True), ("give", (0,))))
        self.assertNotEqual(truths, Code("m.p", (), (("known", 0, 1), ("give", (0,)))))
        self.assertEqual(truths, Code("m.p", (), (("known", 0, True), ("give", (0,)))))
        inner = [("if", 0, (("stop", (), ((("x", ("known", worth)),),)),), (), (), (), ()) for worth in (1, True, False, 0)]
        for one in inner:
            for other in inner:
                self.assertEqual(Code("m.p", (), (one,)) == Code("m.p", (), (other,)), one is other)

    def test_amounts_in_rows(self):
        one, other = [Code("m.p", (), (("form", 0, Amount(*pair), ()), ("give", (0,)))) for pair in ((1, 2), (-2, -4))]
        self.assertEqual(one, other)
        self.assertNotEqual(one, Code("m.p", (), (("form", 0, Amount(1, 3), ()), ("give", (0,)))))

    def test_length_and_text(self):
        self.assertEqual([len(CODE), repr(CODE)], [23, "Code('m.p', 23)"])
        self.assertEqual(repr(Code("it's", (), ())), "Code(\"it's\", 0)")
        self.assertEqual(len(Code("m.p", (), (("give", ()),))), 1)


class RenumberedTest(unittest.TestCase):
    def test_sequence(self):
        CodeCheck(self, CODE)
        found = CODE.renumbered()
        CodeCheck(self, found)
        names = [9, 4, 30, 31, 32, 33, 40, 41, 42, 43, 44, 45, 46, 47, 48, 50, 51, 52, 60, 61, 62, 70, 71, 72, 73, 63, 64]
        new = {old: number for number, old in enumerate(names)}
        self.assertEqual(found.parameters, ((0, "amount"), (1, "count")))
        self.assertEqual(found.rows[0], ("stop", (("m.p", "0", 0),), ((("a", told(0)), ("n", ("value", 1)), ("k", ("known", 7))),)))
        self.assertEqual(found.rows[11], ("write", "m.c", None, new[45]))
        self.assertEqual(found.rows[14], ("call", ((new[47], "amount"), (new[48], "truth")), "m.q", (0, 1)))
        self.assertEqual(found.rows[15], ("if", new[46], (("form", new[50], ZERO, ((new[47], ONE),)),), (new[50], 2), (), (0, 1),
                                          (new[51], new[52])))
        loop = found.rows[16]
        self.assertEqual(loop[:5], ("repeat", 1, new[60], (new[61], new[62]), (new[51], 3)))
        self.assertEqual(loop[5][0][6][1], ("form", new[72], ONE, ((new[61], Amount(2)), (new[70], Amount(2)))))
        self.assertEqual(loop[6:], ((new[73], new[48]), (new[63], new[64])))
        self.assertEqual([found.renumbered(), found.procedure_text, len(found)], [found, "m.p", 23])
        self.assertEqual(CODE.rows, ROWS)

    def test_parts_ascend_again(self):
        rows = (("read", 5, "m.c", None), ("read", 3, "m.c", None),
                ("form", 1, ZERO, ((3, ONE), (5, Amount(2)))),
                ("stop", (("m.p", "0", 0),), ((("x", ("form", ONE, ((3, ONE), (5, Amount(2))))),),)), ("give", (1,)))
        found = Code("m.p", (), rows).renumbered()
        self.assertEqual(found.rows[2:4], (("form", 2, ZERO, ((0, Amount(2)), (1, ONE))), (
            "stop", (("m.p", "0", 0),), ((("x", ("form", ONE, ((0, Amount(2)), (1, ONE)))),),))))


if __name__ == "__main__":
    unittest.main()
