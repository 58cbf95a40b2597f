"""[5]: `written` and `read_dyeing`."""

import random
import re
import unittest
from itertools import product

from pairdyes.dyeings import dyeing_breach
from pairdyes.errors import NotText
from pairdyes.texts import read_dyeing, written
from tests import samples
from tests.samples import TWO, WAY

ENTRY = re.compile("0|[1-9][0-9]{0,2}")


def begins_a_text_of(text, n):
    """Whether some text of n rows begins with this one."""
    if n == 0:
        return text == ""
    *rows, last = text.split("/")
    if len(rows) >= n:
        return False
    for row in rows:
        entries = row.split(" ")
        if len(entries) != n or not all(ENTRY.fullmatch(entry) for entry in entries):
            return False
    *entries, end = last.split(" ")
    if len(entries) >= n or not all(ENTRY.fullmatch(entry) for entry in entries):
        return False
    return end == "" or ENTRY.fullmatch(end) is not None


def is_text(text):
    """Whether a string is a text of a dyeing."""
    rows = [row.split(" ") for row in text.split("/")]
    return text == "" or len(rows) <= 16 and all(
        len(row) == len(rows) and all(ENTRY.fullmatch(entry) for entry in row) for row in rows
    )


def plain_place(text):
    """The length of the longest beginning with which some text begins."""
    return max(
        many for many in range(len(text) + 1)
        if any(begins_a_text_of(text[:many], n) for n in range(17))
    )


class WrittenTest(unittest.TestCase):
    def test_by_hand(self):
        self.assertEqual(written(()), "")
        self.assertEqual(written(((0,),)), "0")
        self.assertEqual(written(TWO), "0 1/1 0")
        self.assertEqual(written(WAY), "0 1 2/1 0 1/2 1 0")
        self.assertEqual(written(samples.full_dyeing(4)), "0 1 2 3/4 5 6 7/8 9 10 11/12 13 14 15")

    def test_the_greatest(self):
        text = written(samples.full_dyeing(16))
        self.assertTrue(text.startswith("0 1 2 3 4 5 6 7 8 9 10 11 12 13 14 15/16 17 "))
        self.assertTrue(text.endswith(" 253 254 255"))

    def test_what_is_written_is_read_back(self):
        for dyeing in samples.some_dyeings(16) + samples.all_dyeings(2):
            self.assertEqual(read_dyeing(written(dyeing)), dyeing)
        self.assertEqual(read_dyeing(written(samples.full_dyeing(16))), samples.full_dyeing(16))


class ReadTest(unittest.TestCase):
    def assert_place(self, text, place):
        with self.assertRaises(NotText) as caught:
            read_dyeing(text)
        self.assertEqual(caught.exception.place, place, text)

    def test_texts_are_read(self):
        self.assertEqual(read_dyeing(""), ())
        self.assertEqual(read_dyeing("0"), ((0,),))
        self.assertEqual(read_dyeing("999"), ((0,),))
        self.assertEqual(read_dyeing("0 1/1 0"), TWO)
        self.assertEqual(read_dyeing("5 3/3 5"), TWO)
        self.assertEqual(read_dyeing("999 0/10 100"), ((0, 1), (2, 3)))
        self.assertEqual(read_dyeing("7 7/7 8"), ((0, 0), (0, 1)))

    def test_dyes_are_numbered_anew(self):
        for seed in range(10):
            table = [[random.Random(1000 * seed + 20 * x + y).randrange(1000) for y in range(seed)] for x in range(seed)]
            text = "/".join(" ".join(str(entry) for entry in row) for row in table)
            self.assertEqual(read_dyeing(text), samples.plain_dyed(table))
            self.assertIsNone(dyeing_breach(read_dyeing(text)))

    def test_entries(self):
        self.assert_place("1000", 3)
        self.assert_place("00", 1)
        self.assert_place("01", 1)
        self.assert_place("0 01/1 0", 3)
        self.assert_place("0 1/1000 0", 7)
        self.assert_place("0 1/1 1000", 9)
        self.assert_place("0 1/1 00", 7)
        self.assert_place("-1", 0)
        self.assert_place("+1", 0)
        self.assert_place("1.0", 1)
        self.assert_place("1_0", 1)
        self.assert_place("0 a/1 0", 2)
        self.assert_place("a", 0)

    def test_signs_beyond_the_ten_digits(self):
        for sign in ("\u0661", "\u00b2", "\uff11", "\u00a0", "\n", "\t", "\x00", "\ud800"):
            self.assert_place(sign, 0)
            self.assert_place("1" + sign, 1)
            self.assert_place("0 1/1 0" + sign, 7)
            self.assert_place("0" + sign + "1/1 0", 1)

    def test_blanks_and_strokes_at_wrong_places(self):
        self.assert_place(" ", 0)
        self.assert_place("/", 0)
        self.assert_place(" 0", 0)
        self.assert_place("0  1/1 0", 2)
        self.assert_place("0 /1 0", 2)
        self.assert_place("0 1 /1 0", 4)
        self.assert_place("0 1/ 1 0", 4)
        self.assert_place("0 1//1 0", 4)
        self.assert_place("0 1/1  0", 6)
        self.assert_place("0 1/1 0 ", 7)
        self.assert_place("0 1/1 0/", 7)
        self.assert_place("0 1/1 /0", 6)

    def test_rows_too_few_too_many_too_short_too_long(self):
        self.assert_place("0 1", 3)
        self.assert_place("0 1 2/1 0 1", 11)
        self.assert_place("0/0", 1)
        self.assert_place("0/", 1)
        self.assert_place("0 1/1 0/0 0", 7)
        self.assert_place("0 1/1", 5)
        self.assert_place("0 1/1/0 1", 5)
        self.assert_place("0 1/1 0 1", 7)
        self.assert_place("0 1 2/1 0/2 1 0", 9)
        self.assert_place("0 1 2/1 0 1 2/2 1 0", 11)

    def test_texts_cut_off(self):
        for dyeing in (TWO, WAY, samples.full_dyeing(5), samples.full_dyeing(16)):
            text = written(dyeing)
            for many in range(1, len(text)):
                beginning = text[:many]
                # The first dye alone is a text of one place; an entry that is cut off at the end is another entry.
                if is_text(beginning):
                    read_dyeing(beginning)
                else:
                    self.assert_place(beginning, many)

    def test_sixteen_and_seventeen_rows(self):
        row = " ".join(["0"] * 16)
        whole = "/".join([row] * 16)
        self.assertEqual(read_dyeing(whole), samples.single_dyeing(16))
        self.assert_place("/".join([row] * 17), len(whole))
        self.assert_place(whole + "/", len(whole))
        self.assert_place("/".join([row] * 15), len(row) * 15 + 14)
        self.assert_place("/".join([row] * 15) + "/", len(row) * 15 + 15)
        self.assert_place(row, len(row))
        self.assert_place(row + "/", len(row) + 1)
        self.assert_place(row + " ", len(row))
        self.assert_place(row + " 0", len(row))
        wider = " ".join(["0"] * 17)
        self.assert_place("/".join([wider] * 17), len(row))
        self.assert_place(" ".join(["999"] * 1000), 16 * 4 - 1)

    def test_all_short_strings(self):
        for many in range(7):
            for signs in product("01 /x", repeat=many):
                self.check("".join(signs))

    def test_changed_texts(self):
        source = random.Random(5)
        for _ in range(1500):
            text = written(samples.random_dyeing(source.randrange(9 ** 9), source.randrange(1, 6), 30))
            for _ in range(source.randrange(1, 3)):
                at = source.randrange(len(text) + 1)
                text = text[:at] + source.choice(["", "0", "1", "9", " ", "/", "-", "10"]) + text[at + source.randrange(2):]
            self.check(text)

    def check(self, text):
        if is_text(text):
            table = [[int(entry) for entry in row.split(" ")] for row in text.split("/") if text]
            self.assertEqual(read_dyeing(text), samples.plain_dyed(table))
        else:
            self.assert_place(text, plain_place(text))


if __name__ == "__main__":
    unittest.main()
