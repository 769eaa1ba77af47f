"""letterhouse/rows.py: unfolded (points 2 and 4)."""

import itertools
import re
import unittest

from letterhouse.errors import BadRow
from letterhouse.rows import unfolded
from things import NO_LISTS, NO_SIGNS, NO_TEXTS, SIGNS, first_bad_place, where

GOOD_HEAD = re.compile(r"[A-Za-z]{1,8}(-[A-Za-z]{1,8}){0,2}:[ -$&-~]*")
GOOD_REST = re.compile(r" [ -$&-~]*")


def is_good(row, behind):
    """Whether row is a good one, told otherwise than the program tells it."""
    if len(row) > 60:
        return False
    return bool(GOOD_HEAD.fullmatch(row) or behind and GOOD_REST.fullmatch(row))


def place_of(row, behind):
    """The first place with which row is no beginning of a good one; 0 of a good one."""
    return first_bad_place(row, lambda text: is_good(text, behind), ("", ":", "a:"))


class Unfolded(unittest.TestCase):
    def test_no_rows(self):
        self.assertEqual(unfolded([]), [])

    def test_one_row(self):
        self.assertEqual(unfolded(["About: a day out"]), [("about", "a day out")])

    def test_letters_of_either_size(self):
        for name in ("reply-to", "Reply-To", "REPLY-TO", "rEPLY-tO"):
            with self.subTest(name=name):
                self.assertEqual(unfolded([name + ": Me"]), [("reply-to", "Me")])

    def test_each_letter_of_either_size(self):
        for letter in "abcdefghijklmnopqrstuvwxyz":
            with self.subTest(letter=letter):
                self.assertEqual(unfolded([letter + ":", letter.upper() + ":"]), [(letter, "")] * 2)

    def test_blanks_of_any_number(self):
        for row in ("To:a b", "To: a b", "To:  a b", "To:a    b", "To:   a  b   ", "To:a b "):
            with self.subTest(row=row):
                self.assertEqual(unfolded([row]), [("to", "a b")])

    def test_the_empty_value(self):
        for rows in (["To:"], ["To: "], ["To:     "], ["To:", " "], ["To: ", "   ", " "]):
            with self.subTest(rows=rows):
                self.assertEqual(unfolded(rows), [("to", "")])

    def test_rows_that_go_on(self):
        self.assertEqual(unfolded(["To: a", " b", "   c  d ", " e"]), [("to", "a b c d e")])
        self.assertEqual(unfolded(["To:", " a", " b"]), [("to", "a b")])

    def test_rows_of_blanks_alone_go_on(self):
        self.assertEqual(unfolded(["To: a", " ", " b"]), [("to", "a b")])
        self.assertEqual(unfolded(["To: a", " " * 60, " b"]), [("to", "a b")])

    def test_several_headers(self):
        rows = ["From: a", "To: b", " c", "from:", "X-Y-Z: d:e"]
        self.assertEqual(unfolded(rows), [("from", "a"), ("to", "b c"), ("from", ""), ("x-y-z", "d:e")])

    def test_the_first_colon_ends_the_name(self):
        self.assertEqual(unfolded(["A::b: c:"]), [("a", ":b: c:")])

    def test_a_row_that_goes_on_may_look_like_a_header(self):
        self.assertEqual(unfolded(["A: b", " C: d"]), [("a", "b C: d")])

    def test_pairs_are_tuples_of_texts(self):
        told = unfolded(["A: b", "C: d"])
        self.assertIs(type(told), list)
        self.assertTrue(all(type(pair) is tuple and len(pair) == 2 for pair in told))

    def test_rows_of_sixty_signs(self):
        self.assertEqual(unfolded(["To: " + "x" * 56, " " + "y" * 59]), [("to", "x" * 56 + " " + "y" * 59)])

    def test_each_sign_may_stand_in_a_value(self):
        for sign in SIGNS:
            with self.subTest(sign=sign):
                self.assertEqual(unfolded([f"A:b{sign}c"]), [("a", "b c" if sign == " " else f"b{sign}c")])

    def test_the_longest_name(self):
        name = "Abcdefgh-Ijklmnop-Qrstuvwx"
        self.assertEqual(unfolded([name + ":y"]), [(name.lower(), "y")])


class Refused(unittest.TestCase):
    def places(self, *pairs):
        for row, place in pairs:
            with self.subTest(row=row):
                self.assertEqual(where(BadRow, unfolded, [row]), (1, place))
                self.assertEqual(where(BadRow, unfolded, ["A:", " b", row, "C:"]), (3, place))

    def test_a_first_row_that_goes_on(self):
        self.assertEqual(where(BadRow, unfolded, [" a"]), (1, 1))
        self.assertEqual(where(BadRow, unfolded, [" ", "A: b"]), (1, 1))
        self.assertEqual(where(BadRow, unfolded, [" To: a"]), (1, 1))

    def test_an_empty_row(self):
        self.places(("", 1))

    def test_a_name_that_ends_without_a_colon(self):
        self.places(("a", 2), ("About", 6), ("abcdefgh", 9), ("a-", 3), ("a-b-c", 6), ("abcdefgh-abcdefgh-abcdefgh", 27))

    def test_letters_or_words_too_many(self):
        self.places(("abcdefghi: x", 9), ("a-abcdefghi: x", 11), ("a-b-abcdefghi:", 13), ("a-b-c-d: x", 6))

    def test_signs_that_may_not_stand_in_a_name(self):
        self.places((":", 1), (": x", 1), ("-a:", 1), ("a-:", 3), ("a--b:", 3), ("a-b-:", 5), ("1a:", 1), ("a1:", 2),
                    ("To : x", 3), ("a b:", 2), ("a_b:", 2), ("a.b:", 2), ("a- b:", 3), ("@:", 1), ("a[:", 2),
                    ("a`:", 2), ("{a:", 1))

    def test_what_is_no_sign(self):
        for sign in NO_SIGNS:
            self.places((sign, 1), (sign + "a:", 1), (f"ab{sign}c:", 3), (f"a:{sign}", 3), (f"To: x{sign}y", 6),
                        (f"To: xyz{sign}", 8), ("To: " + "x" * 55 + sign + "y", 60), ("To: " + "x" * 56 + sign, 61))

    def test_what_is_no_sign_in_a_row_that_goes_on(self):
        for sign in NO_SIGNS:
            with self.subTest(sign=sign):
                self.assertEqual(where(BadRow, unfolded, ["A:", f" {sign}"]), (2, 2))
                self.assertEqual(where(BadRow, unfolded, ["A:", " b", f" cd{sign}e"]), (3, 4))

    def test_the_sixty_first_sign(self):
        self.places(("To: " + "x" * 57, 61), ("To: " + "x" * 58, 61), ("To: " + "x" * 600, 61), ("To:" + " " * 58, 61))
        self.assertEqual(where(BadRow, unfolded, ["A:", " " + "y" * 60]), (2, 61))
        self.assertEqual(where(BadRow, unfolded, ["A:", " " * 61]), (2, 61))
        self.assertEqual(where(BadRow, unfolded, ["A:", " " * 70 + "%"]), (2, 61))

    def test_of_several_wrong_places_the_first(self):
        self.places(("To: x%y%" + "z" * 60, 6), ("a1%", 2), ("%" * 70, 1))

    def test_of_several_wrong_rows_the_first(self):
        self.assertEqual(where(BadRow, unfolded, ["A: b", "c", " d", "", "%"]), (2, 2))
        self.assertEqual(where(BadRow, unfolded, ["A: b", "C: d", "E: %", " " * 61]), (3, 4))

    def test_rows_of_few_signs_each_and_every_one(self):
        for many in range(6):
            for signs in itertools.product("aB-: %", repeat=many):
                row = "".join(signs)
                for ahead in ([], ["X:"]):
                    place = place_of(row, bool(ahead))
                    if place:
                        self.assertEqual(where(BadRow, unfolded, ahead + [row]), (len(ahead) + 1, place), row)
                    else:
                        self.assertEqual(unfolded(ahead + [row])[0][0], "x" if ahead else row.split(":")[0].lower())


class Kinds(unittest.TestCase):
    def test_what_is_no_list(self):
        for thing in NO_LISTS:
            with self.subTest(thing=thing):
                self.assertEqual(where(BadRow, unfolded, thing), (1, 1))

    def test_what_is_no_text_among_the_rows(self):
        for thing in NO_TEXTS:
            with self.subTest(thing=thing):
                self.assertEqual(where(BadRow, unfolded, [thing]), (1, 1))
                self.assertEqual(where(BadRow, unfolded, ["A: b", " c", thing]), (3, 1))

    def test_of_several_no_texts_the_first(self):
        self.assertEqual(where(BadRow, unfolded, ["A: b", 5, None]), (2, 1))

    def test_no_text_is_ahead_of_all_else(self):
        self.assertEqual(where(BadRow, unfolded, ["%", " ", "abc", None]), (4, 1))


class Kept(unittest.TestCase):
    def test_rows_stay_as_they_were(self):
        rows = ["To: a", " b", "C:"]
        before = list(rows)
        unfolded(rows)
        self.assertEqual(rows, before)
        rows = ["To: a", " b", "C"]
        before = list(rows)
        where(BadRow, unfolded, rows)
        self.assertEqual(rows, before)

    def test_a_told_list_that_was_changed_is_told_again_as_before(self):
        rows = ["To: a", " b", "C:"]
        told = unfolded(rows)
        told[0] = ("gone", "gone")
        told.append(("more", ""))
        self.assertEqual(unfolded(rows), [("to", "a b"), ("c", "")])

    def test_told_lists_stand_when_rows_are_changed(self):
        rows = ["To: a", " b"]
        told = unfolded(rows)
        rows[0] = "From: c"
        rows.append(" d")
        self.assertEqual(told, [("to", "a b")])


if __name__ == "__main__":
    unittest.main()
