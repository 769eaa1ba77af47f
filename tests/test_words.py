"""letterhouse/words.py: bytes as a header's value, and back (points 2 and 7)."""

import base64
import itertools
import unittest

from letterhouse.errors import BadBytes, BadValue
from letterhouse.rows import folded, is_value
from letterhouse.words import bytes_of_value, value_of
from things import NO_BYTES, NO_LISTS, NO_SIGNS, NO_TEXTS, SIGNS, refusal, some_bytes


def word(row):
    """One word that tells bytes, told otherwise than the program tells it."""
    return "=?" + base64.b64encode(bytes(row)).decode() + "?="


def words(row):
    return " ".join(word(row[at:at + 24]) for at in range(0, len(row), 24))


class Written(unittest.TestCase):
    def plain(self, *texts):
        for text in texts:
            with self.subTest(text=text):
                self.assertEqual(value_of(list(text.encode())), text)

    def told(self, *texts):
        for text in texts:
            with self.subTest(text=text):
                row = list(text.encode())
                self.assertEqual(value_of(row), words(row))

    def test_no_bytes(self):
        self.assertEqual(value_of([]), "")

    def test_words_of_plain_signs(self):
        self.plain("a", "a day out", "A day: out, by (boat)!", "~", "=", "?", "?=", "=a", "a=?", "a=?b?=", "? =", "=/?")

    def test_each_byte_alone_and_between_others(self):
        for byte in range(256):
            sign = chr(byte)
            with self.subTest(byte=byte):
                self.assertEqual(value_of([byte]), sign if sign in SIGNS and sign != " " else word([byte]))
                self.assertEqual(value_of([97, byte, 98]), f"a{sign}b" if sign in SIGNS else word([97, byte, 98]))

    def test_blanks_side_by_side_and_at_the_ends(self):
        self.told(" ", "  ", " a", "a ", " a b ", "a  b", "a b  c", "a   b")
        self.assertEqual(value_of(list(b" a")), "=?IGE=?=")

    def test_words_that_look_like_told_ones(self):
        self.told("=?", "=?QUJD?=", "a =?", "=?a b", "a =?x b", "=??=")
        self.plain("a=?QUJD?=", "x=?")

    def test_words_of_fifty_nine_signs_one_less_and_one_more(self):
        self.plain("x" * 58, "x" * 59, "a " + "x" * 59 + " b", " ".join(["x" * 59] * 5))
        self.told("x" * 60, "x" * 61, "a " + "x" * 60, "x" * 60 + " b", "x" * 600)

    def test_bytes_that_are_no_signs(self):
        self.assertEqual(value_of([0]), "=?AA==?=")
        self.assertEqual(value_of([37]), "=?JQ==?=")
        self.assertEqual(value_of(list(b"a\nb")), "=?YQpi?=")
        self.assertEqual(value_of([255, 255, 255]), "=?////?=")

    def test_words_just_full_one_less_and_one_more(self):
        self.assertEqual(value_of([0] * 23), "=?" + "A" * 31 + "=?=")
        self.assertEqual(value_of([0] * 24), "=?" + "A" * 32 + "?=")
        self.assertEqual(value_of([0] * 25), "=?" + "A" * 32 + "?= =?AA==?=")
        self.assertEqual(value_of([0] * 48), "=?" + "A" * 32 + "?= =?" + "A" * 32 + "?=")
        self.assertEqual(value_of([0] * 49), "=?" + "A" * 32 + "?= =?" + "A" * 32 + "?= =?AA==?=")

    def test_many_lengths(self):
        for many in range(3, 150):
            row = [0] + some_bytes(many)
            with self.subTest(many=many):
                self.assertEqual(value_of(row), words(row))

    def test_all_values_go_into_rows(self):
        for row in (some_bytes(500), list(b"x" * 500), list(b" " * 500), list(b"=? " * 100)):
            value = value_of(row)
            self.assertTrue(is_value(value))
            self.assertTrue(folded("about", value))

    def test_bad_bytes(self):
        for thing in NO_LISTS:
            with self.subTest(thing=thing):
                refusal(BadBytes, value_of, thing)
        for wrong in NO_BYTES:
            for row in ([wrong], [97, wrong], [0, wrong, 0], [97] * 100 + [wrong]):
                with self.subTest(row=row):
                    refusal(BadBytes, value_of, row)


class Read(unittest.TestCase):
    def its_own_signs(self, *values):
        for value in values:
            with self.subTest(value=value):
                self.assertEqual(bytes_of_value(value), list(value.encode()))

    def test_the_empty_value(self):
        self.assertEqual(bytes_of_value(""), [])

    def test_plain_words(self):
        self.its_own_signs("a", "a day out", "x" * 59, "x" * 60, "x" * 600, "=", "?=", "a=?QUJD?=", "=?", "? =")

    def test_each_sign(self):
        self.its_own_signs(*[f"a{sign}b" for sign in SIGNS])

    def test_one_told_word(self):
        self.assertEqual(bytes_of_value("=?QUJD?="), list(b"ABC"))
        self.assertEqual(bytes_of_value("=?QUI=?="), list(b"AB"))
        self.assertEqual(bytes_of_value("=?QQ==?="), list(b"A"))
        self.assertEqual(bytes_of_value("=?" + "A" * 32 + "?="), [0] * 24)
        self.assertEqual(bytes_of_value("=?" + "A" * 31 + "=?="), [0] * 23)

    def test_several_told_words(self):
        self.assertEqual(bytes_of_value("=?QUJD?= =?QUJD?="), list(b"ABCABC"))
        self.assertEqual(bytes_of_value("=?QQ==?= =?QUI=?= =?/w==?="), list(b"AAB\xff"))
        self.assertEqual(bytes_of_value(" ".join(["=?" + "A" * 32 + "?="] * 20)), [0] * 480)

    def test_words_that_are_nearly_told_ones(self):
        self.its_own_signs("=?=", "=??=", "=?A?=", "=?AA?=", "=?AAA?=", "=?AAAAA?=", "=?QUJD?", "=?QUJD=", "=?QUJD",
                           "?QUJD?=", "QUJD?=", "=QUJD?=", "=?QU-D?=", "=?QU?D?=", "=?QR==?=", "=?QUJ=?=", "=?Q===?=",
                           "=?====?=", "=?AAA=AAAA?=", "=?QQ==QUJD?=", "=?" + "A" * 36 + "?=", "=?" + "A" * 33 + "?=",
                           "=?" + "A" * 60 + "?=", "=?" + "A" * 64 + "?=", "a=?QUJD?=", "=?QUJD?=a", "=?QUJD?=.",
                           "=?QUJD?==?QUJD?=", "=? QUJD?=", "=?QUJD ?=", "=?QU JD?=", "?=QUJD=?")

    def test_one_word_that_is_none_among_told_ones(self):
        self.its_own_signs("=?QUJD?= a", "a =?QUJD?=", "=?QUJD?= a =?QUJD?=", "=?QUJD?= =?QUJ?=", "=?QUJ?= =?QUJD?=",
                           "=?QUJD?= =?" + "A" * 36 + "?=")

    def test_bytes_come_back(self):
        for many in range(100):
            for row in (some_bytes(many), [97] * many, [32] * many, list(b"=?" * many), list(b"=?QUJD?= " * many)):
                with self.subTest(row=row):
                    told = bytes_of_value(value_of(row))
                    self.assertEqual(told, row)
                    self.assertIs(type(told), list)

    def test_bytes_of_few_kinds_come_back(self):
        for many in range(6):
            for row in itertools.product(b"=? a\n", repeat=many):
                self.assertEqual(bytes_of_value(value_of(list(row))), list(row))

    def test_many_bytes(self):
        for row in (some_bytes(36000), list(b"a " * 29999 + b"a")):
            self.assertEqual(bytes_of_value(value_of(row)), row)

    def test_bad_value(self):
        for thing in (" ", " a", "a ", "a  b", "=?QUJD?= ", "=?QUJD?=  =?QUJD?=", "a\nb") + NO_SIGNS + NO_TEXTS:
            with self.subTest(thing=thing):
                refusal(BadValue, bytes_of_value, thing)
        for sign in NO_SIGNS:
            with self.subTest(sign=sign):
                refusal(BadValue, bytes_of_value, f"a{sign}b")
                refusal(BadValue, bytes_of_value, f"=?QUJD{sign}?=")


class Kept(unittest.TestCase):
    def test_bytes_stay_as_they_were(self):
        for row in ([], [97], [0] * 30, [97, 256]):
            before = list(row)
            try:
                value_of(row)
            except BadBytes:
                pass
            self.assertEqual(row, before)

    def test_told_lists_that_were_changed_are_told_again_as_before(self):
        for value in ("", "ab", "=?QUJD?=", "=?QUJD?= =?QUJD?="):
            row = bytes_of_value(value)
            before = list(row)
            row.append(7)
            self.assertEqual(bytes_of_value(value), before)


if __name__ == "__main__":
    unittest.main()
