"""letterhouse/sixteens.py: bytes by sixteens, and back (points 2 and 6)."""

import itertools
import re
import unittest

from letterhouse.errors import BadBytes, BadSixteens
from letterhouse.sixteens import bytes_of_sixteens, sixteens_of
from things import (NO_BYTES, NO_LISTS, NO_SIGNS, NO_TEXTS, SIGNS, first_bad_place, refusal, some_bytes, where)

GOOD_ROW = re.compile(r"([ -$&-<>-~]|=[0-9A-F]{2})*=?")
# All that is wanted to make a row whole that is a beginning of one.
ENDS = ("", "0", "00", "x")
FIGURES = "0123456789ABCDEF"


def is_good(row):
    """Whether row is a good one ahead of another, told otherwise than the program tells it."""
    return len(row) <= 60 and not row.endswith(" ") and bool(GOOD_ROW.fullmatch(row))


def place_of(row, last):
    """The first place with which row is no beginning of a good one; 0 of a good one."""
    place = first_bad_place(row, is_good, ENDS)
    return len(row) + 1 if last and place == 0 and row.endswith("=") else place


def written(row):
    """The rows of bytes, told otherwise than the program tells them."""
    rows = []
    for line in bytes(row).split(b"\n"):
        text = "".join(chr(byte) if 32 <= byte < 127 and byte not in b"%=" else "=%02X" % byte for byte in line)
        text = re.sub(" $", "=20", text)
        while len(text) > 60:
            head = re.match("([^=]|=..){0,59}", text[:59]).group()
            rows.append(head + "=")
            text = text[len(head):]
        rows.append(text)
    return rows


class Written(unittest.TestCase):
    def test_no_bytes(self):
        self.assertEqual(sixteens_of([]), [""])

    def test_plain_signs(self):
        self.assertEqual(sixteens_of(list(b"A day out, by boat!")), ["A day out, by boat!"])

    def test_each_byte_alone(self):
        for byte in range(256):
            if byte == 10:
                rows = ["", ""]
            elif 33 <= byte <= 126 and byte not in (37, 61):
                rows = [chr(byte)]
            else:
                rows = ["=" + FIGURES[byte // 16] + FIGURES[byte % 16]]
            with self.subTest(byte=byte):
                self.assertEqual(sixteens_of([byte]), rows)

    def test_each_byte_between_others(self):
        for byte in range(256):
            plain = 32 <= byte <= 126 and byte not in (37, 61)
            row = f"a{chr(byte)}b" if plain else f"a={byte:02X}b"
            with self.subTest(byte=byte):
                self.assertEqual(sixteens_of([97, byte, 98]), ["a", "b"] if byte == 10 else [row])

    def test_the_equals_and_the_percent_sign(self):
        self.assertEqual(sixteens_of(list(b"a=b")), ["a=3Db"])
        self.assertEqual(sixteens_of([37, 61, 37]), ["=25=3D=25"])

    def test_ends_of_rows(self):
        self.assertEqual(sixteens_of(list(b"a\nb")), ["a", "b"])
        self.assertEqual(sixteens_of(list(b"\na")), ["", "a"])
        self.assertEqual(sixteens_of(list(b"a\n")), ["a", ""])
        self.assertEqual(sixteens_of(list(b"\n\n\n")), ["", "", "", ""])
        self.assertEqual(sixteens_of(list(b"a\n\nb\n\n")), ["a", "", "b", "", ""])
        self.assertEqual(sixteens_of(list(b"a\r\nb")), ["a=0D", "b"])

    def test_blanks(self):
        self.assertEqual(sixteens_of(list(b" ")), ["=20"])
        self.assertEqual(sixteens_of(list(b"   ")), ["  =20"])
        self.assertEqual(sixteens_of(list(b"  a  b  ")), ["  a  b =20"])
        self.assertEqual(sixteens_of(list(b"a \n b ")), ["a=20", " b=20"])
        self.assertEqual(sixteens_of(list(b" \n \n\n ")), ["=20", "=20", "", "=20"])
        self.assertEqual(sixteens_of(list(b"a \tb")), ["a =09b"])

    def test_a_row_just_full_one_less_and_one_more(self):
        self.assertEqual(sixteens_of([120] * 59), ["x" * 59])
        self.assertEqual(sixteens_of([120] * 60), ["x" * 60])
        self.assertEqual(sixteens_of([120] * 61), ["x" * 59 + "=", "xx"])
        self.assertEqual(sixteens_of([120] * 118), ["x" * 59 + "=", "x" * 59])
        self.assertEqual(sixteens_of([120] * 119), ["x" * 59 + "=", "x" * 60])
        self.assertEqual(sixteens_of([120] * 120), ["x" * 59 + "=", "x" * 59 + "=", "xx"])

    def test_a_told_byte_at_the_cut(self):
        self.assertEqual(sixteens_of([120] * 56 + [0]), ["x" * 56 + "=00"])
        self.assertEqual(sixteens_of([120] * 57 + [0]), ["x" * 57 + "=00"])
        self.assertEqual(sixteens_of([120] * 58 + [0]), ["x" * 58 + "=", "=00"])
        self.assertEqual(sixteens_of([120] * 56 + [0, 120]), ["x" * 56 + "=00x"])
        self.assertEqual(sixteens_of([120] * 56 + [0, 120, 120]), ["x" * 56 + "=00=", "xx"])
        self.assertEqual(sixteens_of([120] * 57 + [0, 120]), ["x" * 57 + "=", "=00x"])
        self.assertEqual(sixteens_of([120] * 59 + [0, 120]), ["x" * 59 + "=", "=00x"])
        self.assertEqual(sixteens_of([0] * 20), ["=00" * 20])
        self.assertEqual(sixteens_of([0] * 21), ["=00" * 19 + "=", "=00=00"])

    def test_a_blank_at_the_cut(self):
        self.assertEqual(sixteens_of(list(b"x" * 58 + b" yz")), ["x" * 58 + " =", "yz"])
        self.assertEqual(sixteens_of(list(b"x" * 59 + b" y")), ["x" * 59 + "=", " y"])
        self.assertEqual(sixteens_of(list(b"x" * 57 + b" ")), ["x" * 57 + "=20"])
        self.assertEqual(sixteens_of(list(b"x" * 58 + b" ")), ["x" * 58 + "=", "=20"])
        self.assertEqual(sixteens_of(list(b"x" * 59 + b" ")), ["x" * 59 + "=", "=20"])
        self.assertEqual(sixteens_of([32] * 61), [" " * 59 + "=", " =20"])

    def test_a_cut_row_ahead_of_others(self):
        self.assertEqual(sixteens_of(list(b"x" * 61 + b"\n\n" + b"y" * 61)),
                         ["x" * 59 + "=", "xx", "", "y" * 59 + "=", "yy"])

    def test_rows_are_as_the_point_tells_them(self):
        for many in range(300):
            for row in (some_bytes(many), [byte % 3 * 5 + 27 for byte in some_bytes(many)],
                        [120 if byte % 4 else 61 for byte in some_bytes(many)]):
                with self.subTest(row=row):
                    self.assertEqual(sixteens_of(row), written(row))

    def test_bad_bytes(self):
        for thing in NO_LISTS:
            with self.subTest(thing=thing):
                refusal(BadBytes, sixteens_of, thing)
        for wrong in NO_BYTES:
            for row in ([wrong], [10, 65, wrong], [wrong, 10], [65] * 100 + [wrong]):
                with self.subTest(row=row):
                    refusal(BadBytes, sixteens_of, row)


class Read(unittest.TestCase):
    def test_rows_and_their_ends(self):
        self.assertEqual(bytes_of_sixteens([""]), [])
        self.assertEqual(bytes_of_sixteens(["", ""]), [10])
        self.assertEqual(bytes_of_sixteens(["a", "", "b", ""]), list(b"a\n\nb\n"))
        self.assertEqual(bytes_of_sixteens([" a  b"]), list(b" a  b"))

    def test_each_byte_told_by_figures(self):
        for byte in range(256):
            with self.subTest(byte=byte):
                self.assertEqual(bytes_of_sixteens([f"={byte:02X}"]), [byte])
                self.assertEqual(bytes_of_sixteens([f"a={byte:02X}b"]), [97, byte, 98])

    def test_figures_in_any_place(self):
        self.assertEqual(bytes_of_sixteens(["=41=42=43"]), list(b"ABC"))
        self.assertEqual(bytes_of_sixteens(["=0A", "=0A"]), [10, 10, 10])
        self.assertEqual(bytes_of_sixteens(["=3D41"]), list(b"=41"))
        self.assertEqual(bytes_of_sixteens(["=411"]), list(b"A1"))
        self.assertEqual(bytes_of_sixteens(["x" * 57 + "=41"]), list(b"x" * 57 + b"A"))

    def test_each_sign(self):
        for sign in SIGNS:
            if sign != "=":
                with self.subTest(sign=sign):
                    self.assertEqual(bytes_of_sixteens([f"a{sign}b"]), [97, ord(sign), 98])

    def test_rows_that_go_on(self):
        self.assertEqual(bytes_of_sixteens(["a=", "b"]), list(b"ab"))
        self.assertEqual(bytes_of_sixteens(["a =", " b"]), list(b"a  b"))
        self.assertEqual(bytes_of_sixteens(["=", "=", ""]), [])
        self.assertEqual(bytes_of_sixteens(["a=", "", "b"]), list(b"a\nb"))
        self.assertEqual(bytes_of_sixteens(["a", "=", "b"]), list(b"a\nb"))
        self.assertEqual(bytes_of_sixteens(["=41=", "=42"]), list(b"AB"))
        self.assertEqual(bytes_of_sixteens(["x" * 58 + "=", "y"]), list(b"x" * 58 + b"y"))
        self.assertEqual(bytes_of_sixteens(["x" * 59 + "=", "y"]), list(b"x" * 59 + b"y"))
        self.assertEqual(bytes_of_sixteens([" " * 59 + "=", "y"]), list(b" " * 59 + b"y"))

    def test_rows_of_sixty_signs(self):
        self.assertEqual(bytes_of_sixteens(["x" * 60, "=00" * 20]), [120] * 60 + [10] + [0] * 20)

    def test_what_is_written_is_read_again(self):
        for many in range(200):
            for row in (some_bytes(many), [byte % 3 * 5 + 27 for byte in some_bytes(many)],
                        [(10, 32, 61, 120)[byte % 4] for byte in some_bytes(many)], [120] * many):
                with self.subTest(row=row):
                    told = bytes_of_sixteens(sixteens_of(row))
                    self.assertEqual(told, row)
                    self.assertIs(type(told), list)

    def test_many_bytes(self):
        for row in (some_bytes(44000), [10] * 40000, [32] * 40000):
            self.assertEqual(bytes_of_sixteens(sixteens_of(row)), row)


class Refused(unittest.TestCase):
    def places(self, *pairs):
        for row, place in pairs:
            with self.subTest(row=row):
                self.assertEqual(where(BadSixteens, bytes_of_sixteens, [row]), (1, place))
                self.assertEqual(where(BadSixteens, bytes_of_sixteens, ["a", "b=", row]), (3, place))
                self.assertEqual(where(BadSixteens, bytes_of_sixteens, ["a", row, "b"]), (2, place))

    def test_what_is_no_sign(self):
        for sign in NO_SIGNS:
            self.places((sign, 1), (f"a{sign}", 2), (f"ab{sign}cd", 3), (f"={sign}", 2), (f"=4{sign}", 3),
                        ("x" * 59 + sign, 60), ("x" * 60 + sign, 61))

    def test_wrong_figures(self):
        for sign in SIGNS:
            if sign not in FIGURES:
                self.places((f"={sign}", 2), (f"={sign}0", 2), (f"=4{sign}", 3), (f"ab=4{sign}c", 5), (f"=41={sign}", 5))
        self.places(("=4f", 3), ("=f4", 2), ("==41", 2), ("=4=41", 3), ("= 4", 2))

    def test_figures_that_lack(self):
        self.places(("=4", 3), ("abc=4", 6), ("=41=4", 6), ("x" * 57 + "=4", 60))

    def test_figures_that_go_beyond_the_row(self):
        self.places(("x" * 58 + "=4", 60), ("x" * 58 + "=41", 60), ("x" * 59 + "=41", 61), ("x" * 59 + "=4", 61))

    def test_a_row_that_is_too_long(self):
        self.places(("x" * 61, 61), ("x" * 60 + "=", 61), ("x" * 60 + " ", 61), ("x" * 600, 61), ("=00" * 20 + "x", 61),
                    ("x" * 60 + "%", 61), ("x" * 60000, 61))

    def test_a_blank_at_an_end(self):
        self.places((" ", 2), ("a ", 3), ("a  ", 4), ("=41 ", 5), ("x" * 58 + " ", 60), (" " * 59, 60))

    def test_a_blank_behind_which_no_sign_has_a_place(self):
        self.places(("x" * 59 + " ", 60), (" " * 60, 60), (" " * 61, 60), ("x" * 59 + " y", 60))

    def test_a_last_row_that_goes_on(self):
        for row, place in (("=", 2), ("a=", 3), ("a =", 4), ("=41=", 5), ("x" * 58 + "=", 60), ("x" * 59 + "=", 61)):
            with self.subTest(row=row):
                self.assertEqual(where(BadSixteens, bytes_of_sixteens, [row]), (1, place))
                self.assertEqual(where(BadSixteens, bytes_of_sixteens, ["a", "b=", row]), (3, place))

    def test_no_rows(self):
        self.assertEqual(where(BadSixteens, bytes_of_sixteens, []), (1, 1))

    def test_of_several_wrong_places_the_first(self):
        self.places(("a=4x%" + "y" * 80, 4), ("%" * 70, 1), ("=x ", 2))

    def test_of_several_wrong_rows_the_first(self):
        self.assertEqual(where(BadSixteens, bytes_of_sixteens, ["a", "b ", "=x", "%", "="]), (2, 3))
        self.assertEqual(where(BadSixteens, bytes_of_sixteens, ["=", "a", "b%", "="]), (3, 2))

    def test_rows_of_few_signs_each_and_every_one(self):
        for head in ("", "x" * 55, "x" * 57):
            for many in range(6):
                for signs in itertools.product("xA =%", repeat=many):
                    self.agrees(head + "".join(signs))

    def agrees(self, row):
        for rows, last in (([row], True), ([row, "z"], False)):
            place = place_of(row, last)
            if place:
                self.assertEqual(where(BadSixteens, bytes_of_sixteens, rows), (1, place), row)
            else:
                self.assertIs(type(bytes_of_sixteens(rows)), list)


class Kinds(unittest.TestCase):
    def test_what_is_no_list(self):
        for thing in NO_LISTS:
            with self.subTest(thing=thing):
                self.assertEqual(where(BadSixteens, bytes_of_sixteens, thing), (1, 1))

    def test_what_is_no_text_among_the_rows(self):
        for thing in NO_TEXTS:
            with self.subTest(thing=thing):
                self.assertEqual(where(BadSixteens, bytes_of_sixteens, [thing]), (1, 1))
                self.assertEqual(where(BadSixteens, bytes_of_sixteens, ["a", thing, None]), (2, 1))

    def test_no_text_is_ahead_of_all_else(self):
        self.assertEqual(where(BadSixteens, bytes_of_sixteens, ["%", "a ", None, "="]), (3, 1))


class Kept(unittest.TestCase):
    def test_bytes_stay_as_they_were(self):
        for row in ([], [32], [32, 10, 32], some_bytes(100), [1, 256], [True]):
            before = list(row)
            try:
                sixteens_of(row)
            except BadBytes:
                pass
            self.assertEqual(row, before)

    def test_rows_stay_as_they_were(self):
        for rows in (["a=", "b"], ["a", "b="], ["a", None]):
            before = list(rows)
            try:
                bytes_of_sixteens(rows)
            except BadSixteens:
                pass
            self.assertEqual(rows, before)

    def test_told_lists_that_were_changed_are_told_again_as_before(self):
        rows = sixteens_of([97, 10, 98])
        rows[0] = "gone"
        rows.append("more")
        self.assertEqual(sixteens_of([97, 10, 98]), ["a", "b"])
        row = bytes_of_sixteens(["a", "b"])
        row.clear()
        self.assertEqual(bytes_of_sixteens(["a", "b"]), [97, 10, 98])
        for told in (sixteens_of([]), bytes_of_sixteens([""])):
            told.append("more")
        self.assertEqual((sixteens_of([]), bytes_of_sixteens([""])), ([""], []))


if __name__ == "__main__":
    unittest.main()
