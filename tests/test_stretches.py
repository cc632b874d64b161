"""[34], [38] Stretches."""

import unittest
from random import Random

from cases import random_programs
from codechecks import begun, each_row, inner, sets, told_values, tolds_of, uses
from helpers import ODD_VALUES, check_error, check_same
from stretchcases import Reading, random_stretch

from leastlog.amounts import Amount
from leastlog.codes import Code
from leastlog.errors import InvalidOut, InvalidStretch
from leastlog.failures import UnknownPath, UnknownStop, UnknownValue
from leastlog.inlining import PASSES, optimized_book
from leastlog.stretches import Stretch, stretch_of

ONE, ZERO = Amount(1), Amount(0)
ROWS = [("leaf", 7), ("stop", "first", ()), ("leaf", 0), ("set", 3, (7, 0, 7)), ("use", (7,)), ("stop", "", (3, 0, 3)), ("set", 9, ()),
        ("set", 4, (9, 3)), ("use", ()), ("stop", "b", (4, 7)), ("use", (0, 0)), ("stop", "b", (9,))]


class StretchTest(unittest.TestCase):
    def setUp(self):
        self.stretch = Stretch(ROWS, [4, 4])

    def test_lists(self):
        stretch = self.stretch
        check_same(self, [stretch.row_list, stretch.out_list, len(stretch)], [ROWS, [4, 4], 12])
        check_same(self, [stretch.all_values(), stretch.stops()], [[7, 0, 3, 9, 4], ["first", "", "b", "b"]])
        check_same(self, [stretch.operands(value) for value in (7, 0, 3, 9, 4)], [None, None, (7, 0, 7), (), (9, 3)])
        check_same(self, [stretch.asked(stop) for stop in range(4)], [(), (3, 0, 3), (4, 7), (9,)])
        check_same(self, [stretch.live(stop) for stop in range(4)], [[7], [0, 3], [0, 4], [4]])
        check_same(self, [stretch.operands(value=9), stretch.asked(stop=2), stretch.live(stop=3)], [(), (4, 7), [4]])
        empty = Stretch([])
        check_same(self, [empty.row_list, empty.out_list, empty.all_values(), empty.stops(), len(empty)], [[], [], [], [], 0])

    def test_passed_and_returned_values_are_apart(self):
        rows, out = list(ROWS), [4]
        stretch = Stretch(rows=rows, out=out)
        rows.clear(), out.clear()
        for found in (stretch.row_list, stretch.out_list, stretch.all_values(), stretch.stops(), stretch.live(0)):
            found.append(5)
        self.assertEqual(stretch, Stretch(tuple(ROWS), (4,)))
        check_same(self, [stretch.row_list, stretch.out_list, stretch.live(0), stretch.all_values()], [ROWS, [4], [7], [7, 0, 3, 9, 4]])

    def test_equal(self):
        self.assertEqual(self.stretch, Stretch(ROWS, (4, 4)))
        for other in (Stretch(ROWS, [4]), Stretch(ROWS[:-1], [4, 4]), Stretch(ROWS, [4, 3]), ROWS, None, 12, True):
            self.assertFalse(self.stretch == other)
        self.assertNotEqual(Stretch([("stop", "a", ())]), Stretch([("stop", "b", ())]))
        self.assertNotEqual(Stretch([("leaf", 1), ("use", (1,))]), Stretch([("leaf", 1), ("use", (1, 1))]))

    def test_unknown_values_and_stops(self):
        for value in (*ODD_VALUES, 1, -1, 5, 10 ** 20, (7,)):
            check_error(self, UnknownValue, {"value": value}, self.stretch.operands, value)
        for stop in (*ODD_VALUES, -1, 4, 10 ** 20, "0"):
            check_error(self, UnknownStop, {"stop_number": stop}, self.stretch.asked, stop)
            check_error(self, UnknownStop, {"stop_number": stop}, self.stretch.live, stop)
        check_error(self, UnknownValue, {"value": True}, Stretch([("leaf", 1)]).operands, True)

    def test_invalid_rows(self):
        for value in ODD_VALUES:
            if not isinstance(value, (list, tuple)):
                check_error(self, InvalidStretch, {"position": None}, Stretch, value, 5)
        good = [("leaf", 0), ("leaf", 2), ("set", 3, (0,)), ("stop", "a", (3,))]
        wrong = [*ODD_VALUES, 1, ["leaf", 5], ("leaf",), ("leaf", 5, 6), ("leaf", -1), ("leaf", True), ("leaf", "5"), ("leaf", None),
                 ("leaf", 0), ("leaf", 3), ("leaves", 5), ("set", 5), ("set", 5, None), ("set", 5, [0]), ("set", 5, (5,)), ("set", 5, (1,)),
                 ("set", 5, (0, True)), ("set", 5, (0, 4)), ("set", 0, ()), ("set", -5, ()), ("set", True, ()), ("set", 5, (0,), ()),
                 ("use", 0), ("use", [0]), ("use", (1,)), ("use", (False,)), ("use", ("0",)), ("use", (0,), ()), ("use",), ("stop", "a"),
                 ("stop", "a", 0), ("stop", "a", [0]), ("stop", "a", (5,)), ("stop", 0, ()), ("stop", None, ()), ("stop", "a", (), ()),
                 ("stop", "a", (True,)), ("halt", "a", ()), ("leaf", "a", ()), ("use", "a", ()), (None, 5), (("leaf",), 5), ("use", ((0,),)), ("use", (None,)), ("set", 5, "")]
        for value in wrong:
            for position in (3, 4):
                rows = [*good[:position], value, *good[position:], ("leaf", 2)]
                check_error(self, InvalidStretch, {"position": position}, Stretch, rows, 5)
        check_error(self, InvalidStretch, {"position": 0}, Stretch, [("use", (1,)), ("leaf", 1)])

    def test_invalid_outs(self):
        for value in ODD_VALUES:
            if not isinstance(value, (list, tuple)):
                check_error(self, InvalidOut, {"position": None}, Stretch, ROWS, value)
        for value in (*ODD_VALUES, 1, 5, -1, "0", (0,)):
            check_error(self, InvalidOut, {"position": 2}, Stretch, ROWS, [7, 7, value, None])

    def test_live_as_the_document_says(self):
        random = Random(34)
        for _ in range(300):
            stretch = random_stretch(random, random.randint(0, 20))
            reading = Reading(stretch)
            for stop in range(len(stretch.stops())):
                self.assertEqual(stretch.live(stop), sorted(value for value in stretch.all_values() if reading.is_live(value, stop)))


def told(value):
    return "form", ZERO, ((value, ONE),)


CODE = Code("m.p", ((0, "amount"), (1, "count"), (2, "truth")), (
    ("stop", (("m.o", "9", 0), ("m.p", "0", 0)), ((("z", told(0)),), (("b", told(0)), ("n", ("value", 1)), ("k", ("known", 1))))),
    ("form", 3, ONE, ((0, ONE),)), ("scale", 4, 3, 1), ("share", 5, 3, 1), ("known", 6, 5), ("op", 7, "+", (6, 6)), ("op", 8, "not", (2,)),
    ("test", 9, "same", 4, 3), ("read", 10, "m.c", None), ("read", 11, "m.r", 7), ("write", "m.c", None, 10), ("write", "m.r", 1, 11),
    ("call", ((12, "amount"), (13, "count")), "m.q", (5, 1, 5)), ("call", (), "m.s", ()),
    ("repeat", 13, 14, (15, 16), (12, 6), (
        ("while", 3, (17,), (15,), (("op", 18, "below", (14, 13)), ("op", 19, "and", (18, 2))), 19, (
            ("if", 9, (("read", 20, "m.c", None),), (20, 1), (("stop", (("m.p", "x", 2),), ((("a", told(17)),),)),), (17, 16), (21, 22)),
            ("form", 23, ZERO, ((4, ONE), (21, ONE))),
        ), (23,), (24,)),
    ), (24, 13), (25, 26)),
    ("if", 8, (), (25,), (), (0,), (27,)),
    ("give", (27, 1, 27)),
))


class OfCodeTest(unittest.TestCase):
    def check(self, path, rows, out):
        stretch = stretch_of(CODE, path)
        check_same(self, [stretch.row_list, stretch.out_list], [rows, out])
        self.assertEqual(stretch, stretch_of(code=CODE, path=path))

    def test_the_outermost_list(self):
        rows = [("leaf", 0), ("leaf", 1), ("leaf", 2), ("stop", "0", (0, 1)), ("set", 3, (0,)), ("set", 4, (3, 1)), ("set", 5, (3, 1)),
                ("set", 6, ()), ("set", 7, (6, 6)), ("set", 8, (2,)), ("set", 9, (4, 3)), ("leaf", 10), ("use", (7,)), ("leaf", 11),
                ("use", (10,)), ("use", (1, 11)), ("use", (5, 1, 5)), ("leaf", 12), ("leaf", 13), ("use", ()),
                ("use", (1, 2, 4, 6, 9, 12, 13)), ("leaf", 25), ("leaf", 26), ("use", (0, 8, 25)), ("leaf", 27), ("use", (27, 1, 27))]
        self.check((), rows, [])
        self.assertEqual(stretch_of(CODE), stretch_of(CODE, ()))

    def test_inner_lists(self):
        self.check((14, 0), [("leaf", 14), ("leaf", 15), ("leaf", 16), ("leaf", 1), ("leaf", 2), ("leaf", 4), ("leaf", 9), ("leaf", 13),
                             ("use", (1, 2, 4, 9, 13, 14, 15, 16)), ("leaf", 24)], [1, 2, 4, 9, 13, 24])
        self.check((14, 0, 0, 0), [("leaf", 17), ("leaf", 2), ("leaf", 13), ("leaf", 14), ("set", 18, (14, 13)), ("set", 19, (18, 2))],
                   [2, 13, 14, 17, 19])
        self.check((14, 0, 0, 1), [("leaf", 17), ("leaf", 1), ("leaf", 4), ("leaf", 9), ("leaf", 16), ("use", (1, 9, 16, 17)), ("leaf", 21),
                                   ("leaf", 22), ("set", 23, (4, 21))], [1, 4, 9, 16, 23])
        self.check((14, 0, 0, 1, 0, 0), [("leaf", 1), ("leaf", 20)], [1, 20])
        self.check((14, 0, 0, 1, 0, 1), [("leaf", 16), ("leaf", 17), ("stop", "x", (17,))], [16, 17])
        self.check((15, 0), [("leaf", 25)], [25])
        self.check((15, 1), [("leaf", 0)], [0])

    def test_a_head_whose_truth_is_set_outside(self):
        code = Code("m.p", ((5, "truth"),), (("known", 0, 1), ("while", 2, (1, 2), (0, 0), (), 5, (), (2, 0), (3, 4)), ("give", ())))
        head = stretch_of(code, (1, 0))
        check_same(self, [head.row_list, head.out_list], [[("leaf", 1), ("leaf", 2), ("leaf", 5)], [1, 2, 5]])
        body = stretch_of(code, (1, 1))
        check_same(self, [body.row_list, body.out_list], [[("leaf", 1), ("leaf", 2), ("leaf", 0)], [0, 2]])

    def test_reads(self):
        read = ("read", 3, "m.c", None)
        for rows, expected in (
            ((read,), [("leaf", 3)]),
            ((("read", 3, "m.r", 0),), [("use", (0,)), ("leaf", 3)]),
            ((read, ("read", 4, "m.r", 0), ("read", 5, "m.c", None)), [("leaf", 3), ("use", (0,)), ("leaf", 4), ("leaf", 5)]),
            ((("call", (), "m.q", ()), ("call", ((3, "amount"),), "m.q", ())), [("use", ()), ("use", ()), ("leaf", 3)]),
        ):
            found = stretch_of(Code("m.p", ((0, "count"),), (*rows, ("give", ()))))
            check_same(self, [found.row_list, found.out_list], [[("leaf", 0), *expected, ("use", ())], []])
        code = Code("m.p", ((0, "truth"), (1, "count")), (
            ("if", 0, (read,), (3,), (("read", 4, "m.r", 1),), (4,), (5,)),
            ("while", 2, (6,), (5,), (("read", 7, "m.c", None), ("test", 8, "less", 7, 6)), 8, (("read", 9, "m.c", None),), (9,), (10,)),
            ("give", (10,))))
        for path, expected in (((0, 0), [("leaf", 3)]), ((0, 1), [("leaf", 1), ("use", (1,)), ("leaf", 4)]), ((1, 1), [("leaf", 6), ("leaf", 9)]),
                               ((1, 0), [("leaf", 6), ("leaf", 7), ("set", 8, (7, 6))])):
            check_same(self, stretch_of(code, path).row_list, expected)
        check_same(self, stretch_of(code).row_list, [("leaf", 0), ("leaf", 1), ("use", (0, 1)), ("leaf", 5), ("use", (5,)), ("leaf", 10), ("use", (10,))])

    def test_unknown_paths(self):
        for value in (*[value for value in ODD_VALUES if value != ()], 0, [], [14, 0], (14,), (0, 0), (14, 1), (14, -1), (14, True), (14, False),
                      (15, 2), (16, 0), (17, 0), (-3, 0), (14, 0, 0), (14, 0, 0, 2), (14, 0, 1, 0), (True, 0), (14, "0"), ((14, 0),),
                      (14, 0, 0, 1, 1, 0), (0,) * 300):
            check_error(self, UnknownPath, {"where": value}, stretch_of, CODE, value)

    def test_random_codes(self):
        random = Random(38)
        for made in random_programs(38, 40):
            for code in optimized_book(made, *random.choices([*PASSES, "inline"], k=random.randint(0, 3))).values():
                self.check_code(code)

    def check_code(self, code):
        whole = stretch_of(code)
        self.assertEqual([len(whole.stops()), whole.out_list], [sum(row[0] == "stop" for row in code.rows), []])
        for path, rows, values, entered in lists(code.rows):
            stretch = stretch_of(code, path)
            inside = {value for row, _ in each_row(rows) for value in [*sets(row), *entered_in(row)]} | set(entered)
            outer = sorted({value for row, _ in each_row(rows) for value in occurring(row)} | set(values) - inside)
            outer = [value for value in outer if value not in inside]
            self.assertEqual(stretch.row_list[:len(entered) + len(outer)], [("leaf", value) for value in [*entered, *outer]])
            self.assertEqual(stretch.out_list, sorted({*values, *outer}))
            visible = [value for row in rows for value in sets(row)]
            self.assertEqual(stretch.all_values(), [*entered, *outer, *visible])
            stops = [row for row in rows if row[0] == "stop"]
            self.assertEqual(stretch.stops(), [row[1][-1][1] for row in stops])
            asked = [sorted({value for told in tolds_of(row) for value in told_values(told)}) for row in stops]
            self.assertEqual([list(stretch.asked(stop)) for stop in range(len(stops))], asked)


def entered_in(row):
    return [value for _, _, entered in inner(row) for value in entered]


def occurring(row):
    return [*uses(row), *begun(row), *[value for _, behind, _ in inner(row) for value in behind]]


def lists(rows, ahead=()):
    """The inner lists by their paths, with the values behind them and those set for them."""
    for position, row in enumerate(rows):
        for number, (part, values, entered) in enumerate(inner(row)):
            path = (*ahead, position, number)
            if row[0] == "while" and number == 0:
                values = (*values, *row[2])
            yield path, part, values, list(dict.fromkeys(entered))
            yield from lists(part, path)


if __name__ == "__main__":
    unittest.main()
