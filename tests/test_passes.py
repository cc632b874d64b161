"""[32] Passes."""

import unittest
from random import Random

from cases import other_paths, outcome_of, random_cases, random_programs
from codechecks import CHECKS, CodeCheck, copies, each_row, inner, tolds_of
from helpers import check_same

from leastlog.amounts import Amount
from leastlog.codes import Code
from leastlog.coderuns import parting, run_code
from leastlog.formruns import FormRun
from leastlog.inlining import PASSES
from leastlog.loop_passes import hoist
from leastlog.moduletexts import read_module
from leastlog.passes import drop_dead, fold, least_asked, share_equal, spread
from leastlog.programs import Program
from leastlog.translating import book_of, translate

ONE, ZERO, TWO = Amount(1), Amount(0), Amount(2)
A, N, T = (0, "amount"), (1, "count"), (2, "truth")


def code_of(body, header="procedure p a:amount n:count t:truth"):
    lines = "".join(f"  {line}\n" for line in body.splitlines())
    return translate(Program(read_module(f"module m\ncell c\ncells r 3\n{header}\n{lines}")), "m.p")


def made(*rows, parameters=(A, N, T)):
    """A code of these rows."""
    code = Code("m.p", parameters, rows)
    return code


def stop(*tolds, depth=0):
    return "stop", (("m.p", "0", depth),), (tuple((f"x{'abcdefgh'[at]}", told) for at, told in enumerate(tolds)),)


def told(*parts, constant=0):
    return "form", Amount(constant), tuple((value, Amount(1) * weight) for value, weight in parts)


def kinds(rows):
    return [row[0] for row in rows]


class RandomCodesTest(unittest.TestCase):
    def test_what_each_pass_promises(self):
        random = Random(32)
        changed = dict.fromkeys(PASSES, 0)
        for made in random_programs(32, 60):
            for text, code in book_of(made).items():
                for _ in range(random.randint(0, 4)):
                    code = self.check_pass(random.choice(list(PASSES)), text, code, changed)
                for name in PASSES:
                    self.check_pass(name, text, code, changed)
        self.assertGreater(min(changed.values()), 10, changed)

    def check_pass(self, name, text, code, changed):
        """The result of a pass, which is as the document says."""
        before = repr(code.rows)
        found = PASSES[name](code)
        self.assertEqual(repr(code.rows), before)
        self.assertEqual([found.procedure_text, found.parameters], [text, code.parameters])
        CodeCheck(self, found)
        self.assertTrue(CHECKS[name](found), (name, code.rows, found.rows))
        self.assertEqual(found, PASSES[name](code))
        changed[name] += found != code
        return found

    def test_traces(self):
        random = Random(33)
        for case in random_cases(33, 100):
            path = case.run.path()
            trace = FormRun.traced(case.program, case.text, case.form_arguments, path, case.form_cells)
            for names in (*[[name] for name in PASSES], random.choices(list(PASSES), k=6), random.choices(list(PASSES), k=12)):
                book = book_of(case.program)
                for name in names:
                    book = {text: PASSES[name](code) for text, code in book.items()}
                found = run_code(case.program, book, case.text, case.arguments, case.cells)
                self.assertIsNone(parting(found, case.run.trace()), names)
                found = run_code(case.program, book, case.text, case.form_arguments, case.form_cells, path=path)
                self.assertIsNone(parting(found, trace), names)
                for other in other_paths(random, path):
                    found = outcome_of(run_code, case.program, book, case.text, case.form_arguments, case.form_cells, path=other)
                    expected = outcome_of(FormRun.traced, case.program, case.text, case.form_arguments, other, case.form_cells)
                    self.assertIsNone(parting(found, expected), (names, found, expected))


class SpreadTest(unittest.TestCase):
    def test_example(self):
        text = "module bank\ncell cash\ncell vault\nexport procedure both a:amount -> amount\n  let r = (@cash + @vault)\n" \
               "  let s = (@cash + @vault)\n  return (r * 2/1)\n"
        both = spread(code=translate(Program(read_module(text)), "bank.both"))
        self.assertEqual([both.asked((4,)), both.asked((8,)), kinds(drop_dead(code=both).rows)], [
            [0, 1, 2], [0, 1, 2, 4, 5], ["stop", "read", "read", "stop", "read", "read", "stop", "form", "give"]])

    def test_forms_over_leaves(self):
        code = spread(code_of("let x = (a + 1/1)\nlet y = ((x * 3/1) - a)\nlet z = (y - (a * 2/1))\nput c = z\nreturn"))
        forms = {row[1]: row[2:] for row in code.rows if row[0] == "form"}
        three = (Amount(3), ())
        check_same(self, list(forms.values()), [
            (ONE, ()), (ONE, ((0, ONE),)), (Amount(3), ((0, Amount(3)),)), (Amount(3), ((0, TWO),)), (ZERO, ((0, TWO),)), three])
        shown = [row[2][0] for row in code.rows if row[0] == "stop"][3]
        check_same(self, dict(shown), {"a": told((0, 1)), "n": ("value", 1), "t": ("value", 2), "x": told((0, 1), constant=1),
                                       "y": told((0, 2), constant=3), "z": told(constant=3)})

    def test_copies(self):
        code = spread(code_of("let x = ((a * 2/1) - a)\nput c = x\nlet y = (x * n)\nif (x less y)\n  set a = x\nrepeat n as i\n  set y = x\n"
                              "put r[0] = (y / 1/1)\nreturn"))
        self.assertEqual(len(copies(code)), 2)
        writes = [row for row in code.rows if row[0] == "write"]
        self.assertEqual(writes[0][3], 0)
        self.assertEqual([row[2:] for row in code.rows if row[0] in ("scale", "test")][0], (0, 1))
        branch, loop = [row for row in code.rows if inner(row)]
        self.assertEqual([branch[3], branch[5], loop[6]], [(0,), (0,), (0,)])
        self.assertEqual(writes[1][3], loop[7][0])


class FoldTest(unittest.TestCase):
    def test_operations(self):
        for expression, worth in (("((2 + 3) * 4)", 20), ("(1 - 5)", -4)):
            code = fold(code_of(f"let x = {expression}\nset n = (x * n)\nreturn"))
            check_same(self, [row for row in code.rows if row[0] in ("op", "known")][-2:][0][2], worth)
        for expression, worth in (("(1 is 1)", True), ("(2 below 2)", False), ("(not yes)", False), ("(yes and no)", False),
                                  ("((1 is 2) or (not no))", True)):
            code = fold(code_of(f"let x = {expression}\nlet y = x\nreturn"))
            self.assertNotIn("op", kinds(code.rows))
            check_same(self, dict(code.rows[-2][2][0])["x"], ("known", worth))

    def test_scales_and_tolds(self):
        code = fold(code_of("let x = (a * (2 - 5))\nlet y = (a * 0)\nlet k = (n + 1)\nlet z = (a / 2)\nreturn"))
        self.assertEqual([row[2:] for row in code.rows if row[0] == "form"], [(ZERO, ((0, Amount(-3)),)), (ZERO, ())])
        self.assertNotIn("scale", kinds(code.rows))
        check_same(self, [one[0] for one in tolds_of(code.rows[-2])], ["form", "value", "value", "form", "form", "value", "form"])

    def test_ifs(self):
        code = fold(code_of("let x = 1\nif (x is 1)\n  set x = 2\n  put c = a\nelse\n  set x = n\nif (x is n)\n  put c = a\nif (x is 3)\n"
                            "  put c = a\nelse\n  set a = @c\nput r[x] = a\nreturn"))
        self.assertEqual(kinds(code.rows).count("if"), 1)
        labels = [row[1][0][1] for row in code.rows if row[0] == "stop"]
        self.assertEqual(labels, ["0", "1", "1.a.0", "1.a.1", "2", "3", "3.b.0", "4", "5"])
        check_same(self, dict(code.rows[-2][2][0])["x"], ("known", 2))

    def test_loops(self):
        code = fold(code_of("let k = 0\nrepeat (k - 1) as i\n  set a = @c\nrepeat k as j\n  set a = @c\nrepeat (k + 1) as l\n  set a = @c\n"
                            "put c = a\nreturn"))
        loops = [row for row in code.rows if row[0] == "repeat"]
        self.assertEqual([len(loops), loops[0][4]], [1, (0,)])
        code = fold(code_of("while ((@c less a) and no) up to 3\n  set a = @c\nwhile ((1 is 2) and (2 is 3)) up to 2\n  set n = 7\nput c = a\n"
                            "while no up to 2\n  set n = 4\nset n = (n + n)\nwhile yes up to 3\n  set a = @c\nreturn"))
        self.assertEqual([row[1] for row in code.rows if row[0] == "while"], [3, 3])
        self.assertEqual([row[3] for row in code.rows if row[0] == "op"], [(1, 1)])
        self.assertEqual([row[1][0][1] for row in code.rows if row[0] == "stop"], list("0123456"))

    def test_heads_that_are_known(self):
        head = (("read", 10, "m.c", None), ("test", 11, "less", 10, 5), ("scale", 12, 5, 6), ("known", 13, False), ("op", 14, "not", (13,)),
                ("op", 15, "not", (14,)))
        rows = (("known", 4, 7), ("while", 3, (5, 6), (0, 4), head, 15, (stop(told((5, 1)), depth=1),), (5, 6), (7, 8)),
                stop(told((7, 1)), ("value", 8)), ("give", (7,)))
        code = made(*rows)
        CodeCheck(self, code)
        found = fold(code)
        CodeCheck(self, found)
        self.assertEqual(found.rows, (
            ("known", 4, 7), ("read", 10, "m.c", None), ("test", 11, "less", 10, 0), ("form", 12, ZERO, ((0, Amount(7)),)),
            ("known", 13, False), ("known", 14, True), ("known", 15, False), stop(told((0, 1)), ("known", 7)), ("give", (0,))))

    def test_a_known_yes_stays(self):
        rows = (("known", 4, True), ("while", 3, (), (), (), 4, (), (), ()), ("repeat", 1, 5, (), (), (), (), ()), ("give", ()))
        self.assertEqual(fold(made(*rows)).rows, rows)


class ShareTest(unittest.TestCase):
    def test_lists(self):
        code = share_equal(code=made(
            ("form", 3, ONE, ((0, TWO),)), ("share", 4, 0, 1), ("form", 5, ONE, ((0, TWO),)), ("share", 6, 0, 1), ("known", 7, 1),
            ("known", 8, True), ("known", 9, 1), ("scale", 10, 5, 1), ("scale", 11, 3, 1), ("op", 12, "+", (7, 9)),
            ("if", 8, (("op", 13, "+", (9, 9)), ("op", 14, "-", (7, 9)), ("write", "m.c", None, 11)), (14, 6), (("op", 15, "-", (7, 9)),),
             (15, 0), (16, 17)),
            ("op", 18, "-", (9, 9)), ("give", (5, 6, 12, 16, 18))))
        self.assertEqual(code.rows, (
            ("form", 3, ONE, ((0, TWO),)), ("share", 4, 0, 1), ("known", 7, 1), ("known", 8, True), ("scale", 10, 3, 1),
            ("op", 12, "+", (7, 7)),
            ("if", 8, (("op", 14, "-", (7, 7)), ("write", "m.c", None, 10)), (14, 4), (("op", 15, "-", (7, 7)),), (15, 0), (16, 17)),
            ("op", 18, "-", (7, 7)), ("give", (3, 4, 12, 16, 18))))

    def test_parts_that_come_together(self):
        code = share_equal(made(("scale", 3, 0, 1), ("scale", 4, 0, 1), ("form", 5, ZERO, ((3, ONE), (4, ONE))),
                                ("form", 6, ZERO, ((3, ONE), (4, -ONE))), stop(told((3, 1), (4, 2), constant=1)), ("give", (5, 6))))
        self.assertEqual(code.rows, (("scale", 3, 0, 1), ("form", 5, ZERO, ((3, TWO),)), ("form", 6, ZERO, ()),
                                     stop(told((3, 3), constant=1)), ("give", (5, 6))))

    def test_loops(self):
        loop = ("while", 3, (10,), (4,), (("form", 11, ZERO, ((0, TWO),)), ("test", 12, "less", 11, 10)), 12,
                (("form", 13, ZERO, ((0, TWO),)), ("form", 14, ONE, ((13, ONE),)), ("form", 15, ONE, ((13, ONE),))), (15,), (16,))
        code = share_equal(made(("form", 3, ZERO, ((0, TWO),)), ("form", 4, ZERO, ((0, TWO),)), loop, ("form", 17, ONE, ((3, ONE),)),
                                ("give", (16, 17))))
        self.assertEqual(code.rows[1:], (
            ("while", 3, (10,), (3,), (("test", 12, "less", 3, 10),), 12, (("form", 14, ONE, ((3, ONE),)),), (14,), (16,)),
            ("form", 17, ONE, ((3, ONE),)), ("give", (16, 17))))
        rows = (("while", 3, (), (), (("known", 3, 1), ("known", 4, True)), 4, (("known", 5, 1),), (), ()), ("known", 6, 1), ("give", (6,)))
        self.assertEqual(share_equal(made(*rows)).rows, rows)

    def test_scales_and_shares_are_not_equal(self):
        rows = (("scale", 3, 0, 1), ("share", 4, 0, 1), ("op", 5, "+", (1, 1)), ("op", 6, "*", (1, 1)), ("op", 7, "*", (1, 5)),
                ("form", 8, ONE, ((0, ONE),)), ("form", 9, TWO, ((0, ONE),)), ("form", 10, ONE, ((0, TWO),)), ("form", 11, ONE, ()),
                ("form", 12, Amount(1, 2), ((0, ONE),)), ("form", 13, ONE, ((0, Amount(1, 2)),)), ("give", (3, 4)))
        self.assertEqual(share_equal(made(*rows)).rows, rows)

    def test_reads_and_tests_stay(self):
        rows = (("read", 3, "m.c", None), ("read", 4, "m.c", None), ("test", 5, "less", 0, 3), ("test", 6, "less", 0, 3), ("give", (4, 6)))
        self.assertEqual(share_equal(made(*rows)).rows, rows)


class DropTest(unittest.TestCase):
    def test_rows_with_effects_stay(self):
        rows = (("known", 3, 1), ("read", 4, "m.r", 3), ("test", 5, "less", 4, 0), ("share", 6, 0, 1), ("write", "m.c", None, 0),
                ("call", ((7, "amount"),), "m.q", ()), ("give", ()))
        self.assertEqual(drop_dead(made(*rows)).rows, rows)
        dead = (("form", 10, ONE, ()), ("scale", 11, 10, 1), ("known", 12, 1), ("op", 13, "-", (12, 12)))
        self.assertEqual(drop_dead(made(*dead, *rows[:3], *[("form", 14, ONE, ((4, ONE),))], *rows[3:])).rows, rows)

    def test_joined_values(self):
        branch = ("if", 2, (("known", 3, 1), ("known", 4, 2), ("known", 5, 3)), (3, 4, 5), (), (1, 1, 1), (6, 7, 8))
        code = drop_dead(made(branch, ("op", 9, "+", (8, 8)), ("op", 10, "+", (6, 1)), stop(("value", 10)), ("give", ())))
        self.assertEqual(code.rows, (("if", 2, (("known", 3, 1),), (3,), (), (1,), (6,)), ("op", 10, "+", (6, 1)),
                                     stop(("value", 10)), ("give", ())))

    def test_loops(self):
        body = (("op", 20, "+", (11, 10)), ("op", 21, "+", (12, 12)), ("op", 22, "+", (13, 12)), ("read", 23, "m.r", 14), ("known", 24, 3))
        loop = ("repeat", 1, 10, (11, 12, 13, 14, 15), (1, 1, 3, 1, 1), body, (20, 21, 22, 24, 24), (30, 31, 32, 33, 34))
        code = drop_dead(made(("known", 3, 5), loop, ("op", 35, "-", (34, 34)), ("give", (35, 30))))
        CodeCheck(self, code)
        self.assertEqual(code.rows, (
            ("repeat", 1, 10, (11, 14, 15), (1, 1, 1), (("op", 20, "+", (11, 10)), ("read", 23, "m.r", 14), ("known", 24, 3)),
             (20, 24, 24), (30, 33, 34)), ("op", 35, "-", (34, 34)), ("give", (35, 30))))

    def test_a_joined_value_of_a_repeat_does_not_need_its_parameter(self):
        loop = ("repeat", 1, 10, (11, 12), (1, 1), (("op", 20, "+", (12, 12)),), (20, 1), (30, 31))
        code = drop_dead(made(loop, ("give", (30,))))
        self.assertEqual(code.rows[0], loop)
        code = drop_dead(made(("repeat", 1, 10, (11, 12), (1, 1), (("known", 20, 1),), (20, 11), (30, 31)), ("give", (30,))))
        self.assertEqual(code.rows[0], ("repeat", 1, 10, (11,), (1,), (("known", 20, 1),), (20,), (30,)))

    def test_whiles(self):
        head = (("op", 20, "below", (11, 1)), ("op", 21, "+", (12, 12)))
        loop = ("while", 3, (11, 12, 13), (1, 1, 1), head, 20, (("op", 22, "+", (11, 13)),), (22, 12, 13), (30, 31, 32))
        code = drop_dead(made(loop, ("give", ())))
        self.assertEqual(code.rows[0], ("while", 3, (11, 13), (1, 1), head[:1], 20, (("op", 22, "+", (11, 13)),), (22, 13), (30, 32)))
        code = drop_dead(made(("while", 3, (11, 12), (1, 1), (), 2, (("known", 22, 4), ("known", 23, 5)), (22, 23), (30, 31)), ("give", (31,))))
        self.assertEqual(code.rows[0], ("while", 3, (12,), (1,), (), 2, (("known", 23, 5),), (23,), (31,)))


class AskTest(unittest.TestCase):
    def ranks(self, code):
        return [len(code.asked((at,))) for at, row in enumerate(code.rows) if row[0] == "stop"]

    def test_dependent_values(self):
        code = code_of("let x = (a * 2/1)\nlet y = (x + @c)\nlet z = 3/1\nput c = (y - x)\nreturn", "procedure p a:amount")
        self.assertEqual(self.ranks(code), [1, 2, 3, 4, 4])
        for found in (least_asked(code=code), least_asked(spread(code)), spread(least_asked(code)), least_asked(least_asked(code))):
            CodeCheck(self, found)
            self.assertEqual(self.ranks(found), [1, 1, 2, 2, 2])
        self.assertEqual(kinds(least_asked(code).rows), kinds(code.rows))

    def test_new_rows(self):
        pair = told((3, 1), (4, 1))
        rows = (("read", 3, "m.c", None), ("read", 4, "m.c", None), stop(pair, told((0, 2), constant=1), told(constant=5), ("value", 1)),
                stop(pair, told((3, 1)), told((4, 3))), stop(pair, told((3, 2), (4, 2), constant=-1), told((0, 1), (3, 1))), ("give", ()))
        code = least_asked(made(*rows))
        CodeCheck(self, code)
        self.assertEqual(kinds(code.rows), ["read", "read", "form", "stop", "stop", "form", "form", "stop", "give"])
        self.assertEqual(self.ranks(code), [3, 2, 2])
        check_same(self, code.rows[4], rows[3])
        check_same(self, list(map(code.form_over_leaves, code.asked((3,))[2:])), [code.form_over_leaves(code.rows[2][1])])
        self.assertEqual(least_asked(code), code)

    def test_frames_together(self):
        shown = ((("a", told((0, 1))),), (("b", told((0, 2))), ("k", ("value", 1))), (("c", told((3, 1))),))
        row = ("stop", (("m.p", "0", 0), ("m.q", "0", 0), ("m.r", "0", 0)), shown)
        code = least_asked(made(("form", 3, ONE, ((0, Amount(1, 2)),)), row, ("give", ())))
        asked = code.asked((1,))
        self.assertEqual(len(asked), 2)
        self.assertIn(1, asked)
        CodeCheck(self, code)


class HoistTest(unittest.TestCase):
    def test_loops_within_loops(self):
        code = hoist(code=code_of("repeat n as i\n  let x = (a * 2/1)\n  repeat i as j\n    let y = ((x + (a * n)) + (a * i))\n    let z = (y * j)\n"
                                  "    put c = (z + @c)\nreturn"))
        CodeCheck(self, code)
        outer = next(row for row in code.rows if row[0] == "repeat")
        within = next(row for row in outer[5] if row[0] == "repeat")
        self.assertEqual(kinds(code.rows), ["stop", "form", "scale", "form", "repeat", "stop", "give"])
        self.assertEqual(kinds(outer[5]), ["stop", "stop", "scale", "form", "repeat"])
        self.assertEqual(kinds(within[5]), ["stop", "stop", "scale", "stop", "read", "form", "write"])

    def test_heads_and_ifs(self):
        code = hoist(code_of("while ((n below 3) and (a less @c)) up to 3\n  let k = (n + n)\n  if t\n    let l = (n * 7)\n  set a = (a * k)\nreturn"))
        CodeCheck(self, code)
        loop = next(row for row in code.rows if row[0] == "while")
        self.assertEqual(kinds(code.rows), ["stop", "known", "op", "op", "while", "stop", "give"])
        self.assertEqual([kinds(loop[4]), kinds(loop[6])], [["read", "test", "op"], ["stop", "stop", "if", "stop", "scale"]])
        self.assertEqual(kinds(loop[6][2][2]), ["stop", "known", "op"])

    def test_only_plain_rows(self):
        body = (("share", 20, 0, 1), ("read", 21, "m.c", None), ("write", "m.c", None, 0), ("test", 22, "less", 0, 0),
                ("form", 23, ONE, ((20, ONE),)), ("op", 24, "+", (11, 1)), ("op", 25, "+", (10, 1)))
        rows = (("repeat", 1, 10, (11,), (1,), body, (24,), (30,)), ("give", (30,)))
        self.assertEqual(hoist(made(*rows)).rows, rows)


class SelfTest(unittest.TestCase):
    """The checks of these tests find what is wrong."""

    def test_checks(self):
        wrong = {
            "spread": [made(("form", 3, ONE, ()), ("form", 4, ONE, ((3, ONE),)), ("give", ())),
                       made(("form", 3, ZERO, ((0, ONE),)), ("give", (3,))), made(("form", 3, ONE, ()), stop(told((3, 1))), ("give", ()))],
            "fold": [made(("known", 3, 1), ("op", 4, "+", (3, 3)), ("give", ())), made(("known", 3, 1), ("scale", 4, 0, 3), ("give", ())),
                     made(("known", 3, 1), stop(("value", 3)), ("give", ())), made(("known", 3, 0), ("repeat", 3, 4, (), (), (), (), ()))],
            "share": [made(("known", 3, 1), ("known", 4, 1)), made(("share", 3, 0, 1), ("if", 2, (("share", 4, 0, 1),), (), (), (), ()))],
            "drop": [made(("known", 3, 1), ("give", ())), made(("if", 2, (), (1,), (), (1,), (3,)), ("give", ())),
                     made(("repeat", 1, 3, (4,), (1,), (("op", 5, "+", (4, 4)),), (5,), (6,)), ("give", ()))],
            "ask": [made(("form", 3, ZERO, ((0, TWO),)), stop(told((0, 1)), told((3, 1))), ("give", ()))],
            "hoist": [made(("repeat", 1, 3, (), (), (("known", 4, 1),), (), ()), ("give", ()))],
        }
        for name, codes in wrong.items():
            for code in codes:
                self.assertFalse(CHECKS[name](code), code.rows)
                self.assertTrue(CHECKS[name](PASSES[name](code)), code.rows)


if __name__ == "__main__":
    unittest.main()
