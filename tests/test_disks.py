"""[44], [45] Seals and disks."""

import unittest
from random import Random

from helpers import ODD_VALUES, check_error, check_same

from leastlog.disks import Disk
from leastlog.errors import InvalidLength, InvalidRecord
from leastlog.seals import sealed, whole_records

NO_STRINGS = [value for value in ODD_VALUES if not isinstance(value, str)] + [0, 10]
RECORDS = ["", "a", " ", "12 7 x", "0", "till pay", "a|b", "~" * 50, "  two  ", "0 7 ", "1 314 a", "-", "yes"]


def check_of(record):
    """The check of [44], by powers instead of steps."""
    powers = [31 ** (len(record) - at - 1) * ord(character) for at, character in enumerate(record)]
    return (7 * 31 ** len(record) + sum(powers)) % 1000003


def row(record):
    return f"{len(record)} {check_of(record)} {record}\n"


class SealTest(unittest.TestCase):
    def test_known_rows(self):
        check_same(self, [sealed(record=""), sealed("a"), sealed(" ")], ["0 7 \n", "1 314 a\n", "1 249  \n"])
        check_same(self, sealed("ab"), f"2 {31 * 314 + 98} ab\n")

    def test_rows(self):
        for record in [*RECORDS, *["".join(Random(at).choices("ab 1|~", k=at)) for at in range(40)]]:
            check_same(self, sealed(record), row(record))
            check_same(self, whole_records(text=sealed(record)), [record])

    def test_whole_records(self):
        text = "".join(row(record) for record in RECORDS)
        check_same(self, whole_records(text), RECORDS)
        check_same(self, [whole_records(""), whole_records("\n"), whole_records("a"), whole_records(" \n" + text)], [[], [], [], []])
        check_same(self, whole_records(text + "\n" + text), RECORDS)
        check_same(self, whole_records(text + text), RECORDS + RECORDS)

    def test_texts_cut_at_every_place(self):
        text = "".join(row(record) for record in RECORDS)
        for length in range(len(text) + 1):
            check_same(self, whole_records(text[:length]), RECORDS[:text[:length].count("\n")])

    def test_one_character_replaced(self):
        text = "".join(row(record) for record in RECORDS[:7])
        for at, was in enumerate(text):
            for character in "0179 a\n~":
                if character != was:
                    expected = RECORDS[:text[:at].count("\n")]
                    check_same(self, whole_records(text[:at] + character + text[at + 1:]), expected)

    def test_rows_that_are_nearly_sealed(self):
        for text in ("01 314 a\n", "1 0314 a\n", "1  314 a\n", "1 314  a\n", "1 314 a \n", "+1 314 a\n", "1 +314 a\n", " 1 314 a\n", "1 314 a",
                     "1 313 a\n", "2 314 a\n", "1 314 b\n", "1 1000317 a\n", "-0 7 \n", "0 7\n", "00 7 \n", "1 314\n", "1" * 5000 + " 7 \n",
                     "0 " + "7" * 5000 + " \n", "0" * 4001 + " 7 \n", "x y z\n"):
            check_same(self, whole_records(text), [])
            check_same(self, whole_records(row("ok") + text), ["ok"])

    def test_no_records(self):
        for value in [*NO_STRINGS, "\n", "a\n", "a\nb", "\na"]:
            check_error(self, InvalidRecord, {"value": value}, sealed, value)
        for value in NO_STRINGS:
            check_error(self, InvalidRecord, {"value": value}, whole_records, value)


class DiskTest(unittest.TestCase):
    def test_append_and_sync(self):
        disk = Disk()
        check_same(self, [disk.content, disk.sure], ["", 0])
        check_same(self, [disk.append(text="ab"), disk.content, disk.sure], [2, "ab", 0])
        check_same(self, [disk.sync(), disk.content, disk.sure], [2, "ab", 2])
        check_same(self, [disk.append("\nc"), disk.append(""), disk.content, disk.sure, disk.sync()], [4, 4, "ab\nc", 2, 4])
        disk = Disk(text="abc")
        check_same(self, [disk.content, disk.sure, disk.append("d"), disk.sure], ["abc", 3, 4, 3])

    def test_stopped_at_every_length(self):
        disk = Disk("abc")
        disk.append("defg")
        for length in range(-1, 9):
            if 3 <= length <= 7:
                found = disk.stopped(length=length)
                check_same(self, [found.content, found.sure], ["abcdefg"[:length], length])
                found.append("x")
                check_same(self, [disk.content, disk.sure], ["abcdefg", 3])
            else:
                check_error(self, InvalidLength, {"value": length}, disk.stopped, length)
        for value in (*ODD_VALUES, 10 ** 20):
            check_error(self, InvalidLength, {"value": value}, disk.stopped, value)
        one = Disk("a")
        for value in (True, False):
            check_error(self, InvalidLength, {"value": value}, one.stopped, value)
        check_same(self, [one.stopped(1) == one, Disk().stopped(0) == Disk()], [True, True])

    def test_no_strings(self):
        disk = Disk("a")
        for value in NO_STRINGS:
            check_error(self, InvalidRecord, {"value": value}, Disk, value)
            check_error(self, InvalidRecord, {"value": value}, disk.append, value)
        check_same(self, [disk.content, disk.sure], ["a", 1])

    def test_clone_and_equality(self):
        disk = Disk("a")
        disk.append("b")
        other = disk.clone()
        self.assertEqual(other, disk)
        check_same(self, [other.content, other.sure], ["ab", 1])
        other.sync()
        self.assertNotEqual(other, disk)
        check_same(self, [disk.sure, disk.append("c"), other.content], [1, 3, "ab"])
        self.assertNotEqual(Disk("ab"), disk.clone())
        self.assertNotEqual(Disk("a"), Disk("b"))
        for value in ODD_VALUES:
            self.assertNotEqual(Disk(), value)


if __name__ == "__main__":
    unittest.main()
