"""[49] Payloads, with the literals of [16] and the texts of modules of [19]."""

import unittest
from random import Random

from helpers import ODD_VALUES, check_error, check_same
from makers import Maker

from leastlog.amounts import Amount
from leastlog.errors import InvalidPayload
from leastlog.modules import Module
from leastlog.payloads import payload_of, read_payload

CALLS = [
    (("run", "till.pay", [], 1), "run till.pay 1"),
    (("run", "till.pay", [Amount(3), Amount(-1, 2), Amount(0)], 9), "run till.pay 9 3/1 -1/2 0/1"),
    (("run", "a.b", [0, -3, 12, True, False], 2), "run a.b 2 0 -3 12 yes no"),
    (("run", "abcdefgh.call", [True, Amount(4, 6), 10 ** 29, 1, Amount(10 ** 29, 7)], 5), f"run abcdefgh.call 5 yes 2/3 {10 ** 29} 1 {10 ** 29}/7"),
    (("run", "run.run", [7] * 12, 3), "run run.run 3" + " 7" * 12),
]
MODULES = ["module till\n", "module till\nimport bank\ncell cash\ncells box 2\ncarry box[1] = (@cash + 1/2)\nexport procedure sell n:count -> amount\n"
           "  repeat n as turn\n    if (@cash less 3/1)\n      put box[turn] = 0/1\n    else\n      add cash 1/1\n  return @cash\n"]


class PayloadTest(unittest.TestCase):
    def test_runs(self):
        for record, text in CALLS:
            check_same(self, [payload_of(record=record), read_payload(text=text)], [text, record])
            check_same(self, payload_of((*record[:2], tuple(record[2]), record[3])), text)
        for weight in range(1, 10):
            record = ("run", "till.pay", [Amount(weight)], weight)
            check_same(self, [payload_of(record), read_payload(payload_of(record))], [f"run till.pay {weight} {weight}/1", record])

    def test_modules(self):
        random = Random(49)
        maker = Maker(random)
        for module in [*[maker.module(name) for name in ("aa", "bb", "cc")], Module("till")]:
            text = payload_of(("module", module))
            self.assertNotIn("\n", text)
            check_same(self, [text, read_payload(text)], [str(module)[:-1].replace("\n", "|"), ("module", module)])
        for text in MODULES:
            kind, module = read_payload(text[:-1].replace("\n", "|"))
            check_same(self, [kind, str(module)], ["module", text])

    def test_random_calls(self):
        random = Random(16)
        for _ in range(200):
            arguments = [random.choice((Amount(random.randint(-30, 30), random.randint(1, 12)), random.randint(-50, 50), random.random() < 0.5))
                         for _ in range(random.randint(0, 6))]
            record = ("run", random.choice(("a.b", "till.pay", "yes.no")), arguments, random.randint(1, 9))
            check_same(self, read_payload(payload_of(record)), record)

    def test_texts_that_are_nearly_payloads(self):
        wrong = ["", " ", "run", "run ", "run till.pay", "run till.pay ", "run till.pay 1 ", " run till.pay 1", "run  till.pay 1", "run till.pay  1", "run till.pay 1  3",
                 "run till.pay 0", "run till.pay 10", "run till.pay 01", "run till.pay -1", "run till.pay +1", "run till.pay x", "run till.pay 1/1", "run till.pay yes",
                 "run till.pay 1 03", "run till.pay 1 -0", "run till.pay 1 0/2", "run till.pay 1 2/4", "run till.pay 1 3/01", "run till.pay 1 03/1", "run till.pay 1 -0/1",
                 "run till.pay 1 3/-1", "run till.pay 1 3/0", "run till.pay 1 3/", "run till.pay 1 /3", "run till.pay 1 3/1/1", "run till.pay 1 +3", "run till.pay 1 - 3",
                 "run till.pay 1 Yes", "run till.pay 1 yesno", "run till.pay 1 x", "run till.pay 1 @cash", "run till.pay 1 (1 + 1)", "run till.pay 1 1,2", "run till.pay 1\n",
                 "run till.pay 1 3\n", "\nrun till.pay 1", "run till.pay\n1", "run till 1", "run .pay 1", "run till. 1", "run till.pay.x 1", "run Till.pay 1", "run till.pay2 1",
                 "run abcdefghi.pay 1", "run till.abcdefghi 1", "Run till.pay 1", "run till.pay 1 3.5", "walk till.pay 1", "run till.pay 1 " + "7" * 4001,
                 "run till.pay 1 1/" + "7" * 4001, "run till.pay " + "1" * 4001]
        for text in MODULES:
            line = text[:-1].replace("\n", "|")
            wrong += [text, text[:-1] + "\n", line + "|", "|" + line, line + "\n", "\n" + line, line + " ", " " + line, line.replace("|", "||", 1) + "|", line[:-1] + "|",
                      line.replace("module", "modul"), line.replace(" ", "  ", 1)]
            wrong += [line.replace("|", "\n", 1)] if "|" in line else []
        for text in wrong:
            check_error(self, InvalidPayload, {"value": text}, read_payload, text)
        for value in (*[value for value in ODD_VALUES if not isinstance(value, str)], 0):
            check_error(self, InvalidPayload, {"value": value}, read_payload, value)

    def test_each_changed_text_is_read_as_it_was_written(self):
        """What is read from a changed text gives this very text again."""
        random = Random(5)
        texts = [text for _, text in CALLS] + [text[:-1].replace("\n", "|") for text in MODULES]
        for _ in range(3000):
            text = random.choice(texts)
            at = random.randrange(len(text))
            text = text[:at] + random.choice(("", random.choice("0123 /-|.\nyabz"))) + text[at + random.randint(0, 1):]
            try:
                record = read_payload(text)
            except InvalidPayload:
                continue
            self.assertEqual(payload_of(record), text)

    def test_no_records(self):
        good = ("run", "till.pay", [Amount(1)], 1)
        wrong = [*ODD_VALUES, 0, list(good), good[:3], (*good, None), ("walk", *good[1:]), (None, *good[1:]), ("module", Module("till"), 1), ["module", Module("till")],
                 ("module",), ("module", str(Module("till"))), ("module", None), ("modul", Module("till")), (Module("till"), "module"), ("run", Module("till"))]
        wrong += [("run", value, [], 1) for value in ("", "till", "till.", ".pay", "a.b.c", "Till.pay", "abcdefghi.pay", "till.abcdefghi", "till pay", "till.pay\n", None, 1, ("till", "pay"))]
        wrong += [("run", "till.pay", value, 1) for value in (None, "", {}, 1, [None], ["1"], [1, (2,)], [[1]], [Amount(1), b""], Amount(1))]
        wrong += [("run", "till.pay", [], value) for value in (0, 10, -1, True, None, "1", Amount(1), 10 ** 20)]
        for value in wrong:
            check_error(self, InvalidPayload, {"value": value}, payload_of, value)


if __name__ == "__main__":
    unittest.main()
