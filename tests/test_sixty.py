"""letterhouse/sixty.py: bytes by sixty-four signs, and back (points 2 and 5)."""

import base64
import itertools
import unittest

from letterhouse.errors import BadBytes, BadSixty
from letterhouse.sixty import bytes_of_sixty, sixty_of
from things import NO_BYTES, NO_LISTS, NO_SIGNS, NO_TEXTS, first_bad_place, refusal, some_bytes, where

SIXTY_FOUR = "ABCDEFGHIJKLMNOPQRSTUVWXYZabcdefghijklmnopqrstuvwxyz0123456789+/"
# All that is wanted to make four signs whole, so far as that can be done.
ENDS = ["".join(signs) for many in range(4) for signs in itertools.product("A=", repeat=many)]


def is_good(row):
    """Whether row is a good last one, told otherwise than the program tells it."""
    if not 4 <= len(row) <= 60:
        return False
    try:
        return base64.b64encode(base64.b64decode(row, validate=True)).decode() == row
    except ValueError:
        return False


def place_of(row):
    """The first place with which row, the only one, is no beginning of a good one; 0 of a good one."""
    return first_bad_place(row, is_good, ENDS)


class Written(unittest.TestCase):
    def test_no_bytes(self):
        self.assertEqual(sixty_of([]), [])

    def test_one_two_and_three_bytes(self):
        self.assertEqual(sixty_of([77]), ["TQ=="])
        self.assertEqual(sixty_of([77, 97]), ["TWE="])
        self.assertEqual(sixty_of([77, 97, 110]), ["TWFu"])
        self.assertEqual(sixty_of([77, 97, 110, 77]), ["TWFuTQ=="])

    def test_the_edges_of_a_byte(self):
        self.assertEqual(sixty_of([0]), ["AA=="])
        self.assertEqual(sixty_of([255]), ["/w=="])
        self.assertEqual(sixty_of([0, 0, 0]), ["AAAA"])
        self.assertEqual(sixty_of([255, 255, 255]), ["////"])
        self.assertEqual(sixty_of([251, 239, 190]), ["++++"])

    def test_all_sixty_four_signs_in_their_order(self):
        row = list(base64.b64decode(SIXTY_FOUR))
        self.assertEqual(sixty_of(row), [SIXTY_FOUR[:60], SIXTY_FOUR[60:]])

    def test_rows_of_sixty_signs(self):
        self.assertEqual(sixty_of([0] * 44), ["A" * 59 + "="])
        self.assertEqual(sixty_of([0] * 45), ["A" * 60])
        self.assertEqual(sixty_of([0] * 46), ["A" * 60, "AA=="])
        self.assertEqual(sixty_of([0] * 90), ["A" * 60] * 2)
        self.assertEqual(sixty_of([0] * 91), ["A" * 60] * 2 + ["AA=="])

    def test_many_lengths(self):
        for many in range(200):
            row = some_bytes(many)
            text = base64.b64encode(bytes(row)).decode()
            with self.subTest(many=many):
                self.assertEqual(sixty_of(row), [text[at:at + 60] for at in range(0, len(text), 60)])

    def test_each_byte(self):
        for byte in range(256):
            for row in ([byte], [0, byte], [255, 255, byte]):
                with self.subTest(row=row):
                    self.assertEqual(sixty_of(row), [base64.b64encode(bytes(row)).decode()])

    def test_bad_bytes(self):
        for thing in NO_LISTS:
            with self.subTest(thing=thing):
                refusal(BadBytes, sixty_of, thing)
        for wrong in NO_BYTES:
            for row in ([wrong], [1, 2, wrong], [wrong, 1, 2], [0] * 100 + [wrong]):
                with self.subTest(row=row):
                    refusal(BadBytes, sixty_of, row)


class Read(unittest.TestCase):
    def test_no_rows(self):
        self.assertEqual(bytes_of_sixty([]), [])

    def test_one_two_and_three_bytes(self):
        self.assertEqual(bytes_of_sixty(["TQ=="]), [77])
        self.assertEqual(bytes_of_sixty(["TWE="]), [77, 97])
        self.assertEqual(bytes_of_sixty(["TWFu"]), [77, 97, 110])
        self.assertEqual(bytes_of_sixty(["TWFuTQ=="]), [77, 97, 110, 77])

    def test_all_sixty_four_signs(self):
        row = list(base64.b64decode(SIXTY_FOUR))
        self.assertEqual(bytes_of_sixty([SIXTY_FOUR[:60], SIXTY_FOUR[60:]]), row)

    def test_what_is_written_is_read_again(self):
        for many in range(200):
            row = some_bytes(many)
            with self.subTest(many=many):
                told = bytes_of_sixty(sixty_of(row))
                self.assertEqual(told, row)
                self.assertIs(type(told), list)

    def test_many_bytes(self):
        row = some_bytes(44000)
        self.assertEqual(bytes_of_sixty(sixty_of(row)), row)


class Refused(unittest.TestCase):
    def places(self, *pairs):
        for row, place in pairs:
            with self.subTest(row=row):
                self.assertEqual(where(BadSixty, bytes_of_sixty, [row]), (1, place))
                self.assertEqual(where(BadSixty, bytes_of_sixty, ["A" * 60, "b" * 60, row]), (3, place))

    def test_signs_that_are_none_of_the_sixty_four(self):
        for sign in tuple(" !,-._:@[`{~") + NO_SIGNS:
            self.places((sign, 1), (sign + "AAA", 1), (f"A{sign}AA", 2), (f"AA{sign}A", 3), (f"AAA{sign}", 4),
                        (f"AAAA{sign}", 5), (f"AAAAA{sign}", 6), ("A" * 59 + sign, 60), ("A" * 60 + sign, 61))

    def test_signs_that_are_none_behind_a_filled_end(self):
        self.places(("AA=-", 4), ("AA==\n", 5), ("AAA=\n", 5))

    def test_fill_where_it_may_not_stand(self):
        self.places(("=", 1), ("=AAA", 1), ("====", 1), ("A===", 2), ("A=AA", 2), ("AAAA=", 5), ("AAAA====", 5),
                    ("AAAAA===", 6), ("AA===", 5), ("AAA==", 5), ("AA=A", 4), ("AA==AAAA", 5), ("AAA=AAAA", 5),
                    ("AA==A", 5), ("AA==AA==", 5))

    def test_bits_that_are_not_nought(self):
        for number, sign in enumerate(SIXTY_FOUR):
            if number % 16:
                self.places((f"A{sign}==", 3))
            else:
                self.assertEqual(bytes_of_sixty([f"A{sign}=="]), [number // 16])
            if number % 4:
                self.places((f"AA{sign}=", 4))
            else:
                self.assertEqual(bytes_of_sixty([f"AA{sign}="]), [0, number // 4])

    def test_an_end_of_all_that_comes_too_early(self):
        self.places(("A", 2), ("AA", 3), ("AAA", 4), ("AA=", 4), ("AAAAA", 6), ("AAAAAA", 7), ("AAAAAA=", 8),
                    ("A" * 57, 58), ("A" * 58, 59), ("A" * 59, 60), ("A" * 58 + "=", 60))

    def test_an_empty_row(self):
        self.places(("", 1))
        self.assertEqual(where(BadSixty, bytes_of_sixty, ["", "AAAA"]), (1, 1))
        self.assertEqual(where(BadSixty, bytes_of_sixty, ["A" * 60, "", "A" * 60]), (2, 1))

    def test_a_row_that_is_too_long(self):
        self.places(("A" * 61, 61), ("A" * 64, 61), ("A" * 60 + "AA==", 61), ("A" * 60 + "=", 61), ("A" * 600, 61),
                    ("A" * 58 + "==AAAA", 61), ("A" * 59 + "==", 61))
        self.assertEqual(where(BadSixty, bytes_of_sixty, ["A" * 64, "A" * 60]), (1, 61))

    def test_a_row_that_is_too_short_ahead_of_another(self):
        for many in range(60):
            with self.subTest(many=many):
                self.assertEqual(where(BadSixty, bytes_of_sixty, ["A" * many, "A" * 60]), (1, many + 1))
                self.assertEqual(where(BadSixty, bytes_of_sixty, ["b" * 60, "A" * many, "AAAA"]), (2, many + 1))

    def test_a_row_behind_the_last_one(self):
        self.assertEqual(where(BadSixty, bytes_of_sixty, ["AA==", "AAAA"]), (1, 5))
        self.assertEqual(where(BadSixty, bytes_of_sixty, ["AAA=", ""]), (1, 5))
        self.assertEqual(where(BadSixty, bytes_of_sixty, ["A" * 58 + "==", "AAAA"]), (1, 61))
        self.assertEqual(where(BadSixty, bytes_of_sixty, ["A" * 60, "A" * 59 + "=", "AA=="]), (2, 61))

    def test_of_several_wrong_rows_the_first(self):
        self.assertEqual(where(BadSixty, bytes_of_sixty, ["A" * 60, "A" * 59, "!", "="]), (2, 60))
        self.assertEqual(where(BadSixty, bytes_of_sixty, ["A" * 60, "AA!A", "A"]), (2, 3))

    def test_rows_of_few_signs_each_and_every_one(self):
        for many in range(1, 6):
            for signs in itertools.product("AQB=-", repeat=many):
                row = "".join(signs)
                place = place_of(row)
                if place:
                    self.assertEqual(where(BadSixty, bytes_of_sixty, [row]), (1, place), row)
                else:
                    self.assertEqual(bytes_of_sixty([row]), list(base64.b64decode(row)))

    def test_every_end_of_eight_signs(self):
        for signs in itertools.product("AQC=", repeat=5):
            row = "/w" + "9" + "".join(signs)
            place = place_of(row)
            if place:
                self.assertEqual(where(BadSixty, bytes_of_sixty, [row]), (1, place), row)
            else:
                self.assertEqual(bytes_of_sixty([row]), list(base64.b64decode(row)))


class Kinds(unittest.TestCase):
    def test_what_is_no_list(self):
        for thing in NO_LISTS:
            with self.subTest(thing=thing):
                self.assertEqual(where(BadSixty, bytes_of_sixty, thing), (1, 1))

    def test_what_is_no_text_among_the_rows(self):
        for thing in NO_TEXTS:
            with self.subTest(thing=thing):
                self.assertEqual(where(BadSixty, bytes_of_sixty, [thing]), (1, 1))
                self.assertEqual(where(BadSixty, bytes_of_sixty, ["A" * 60, thing, None]), (2, 1))

    def test_no_text_is_ahead_of_all_else(self):
        self.assertEqual(where(BadSixty, bytes_of_sixty, ["!", "", None, "A"]), (3, 1))


class Kept(unittest.TestCase):
    def test_bytes_stay_as_they_were(self):
        for row in ([], [1], [1, 2, 3, 4], some_bytes(100), [1, 256], [True]):
            before = list(row)
            try:
                sixty_of(row)
            except BadBytes:
                pass
            self.assertEqual(row, before)

    def test_rows_stay_as_they_were(self):
        for rows in (["A" * 60, "AA=="], ["A" * 60, "A"], ["AAAA", None]):
            before = list(rows)
            try:
                bytes_of_sixty(rows)
            except BadSixty:
                pass
            self.assertEqual(rows, before)

    def test_told_lists_that_were_changed_are_told_again_as_before(self):
        rows = sixty_of([1, 2, 3])
        rows[0] = "gone"
        rows.append("more")
        self.assertEqual(sixty_of([1, 2, 3]), ["AQID"])
        row = bytes_of_sixty(["AQID"])
        row.clear()
        self.assertEqual(bytes_of_sixty(["AQID"]), [1, 2, 3])
        for told in (sixty_of([]), bytes_of_sixty([])):
            told.append("more")
        self.assertEqual((sixty_of([]), bytes_of_sixty([])), ([], []))


if __name__ == "__main__":
    unittest.main()
