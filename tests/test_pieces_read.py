"""letterhouse/pieces.py: pieces and how they are read (points 1, 2 and 12)."""

import itertools
import unittest

from letterhouse.errors import BadBody, BadHeader, BadRow
from letterhouse.headers import Header
from letterhouse.pieces import Piece, piece_of, piece_rows
from things import NO_LISTS, NO_SIGNS, NO_TEXTS, SIGNS, some_bytes, where

X = ["Body: plain", "", "x"]
BODIES = ("plain", "sixteens", "sixty")


def told(piece):
    """What a piece tells, as values that can be compared."""
    pieces = None if piece.pieces is None else [told(inner) for inner in piece.pieces]
    return [(header.name, header.told()) for header in piece.headers], piece.row, pieces


def within(rows, times, border="b"):
    """Rows of a piece with those of so many others round it, each with a border of its own."""
    for number in range(times):
        rows = [f"Body: pieces {border}{number}", "", f"--{border}{number}", *rows, f"--{border}{number}--"]
    return rows


class Read(unittest.TestCase):
    def read(self, rows, headers, row=None, pieces=None):
        with self.subTest(rows=rows):
            self.assertEqual(told(piece_of(rows)), (headers, row, pieces))

    def test_plain_bytes(self):
        self.read(["Body: plain", "", "Hello,", "", "  Ann"], [], [ord(sign) for sign in "Hello,\n\n  Ann"])
        self.read(["Body: plain", "", ""], [], [])
        self.read(["Body: plain", "", "", ""], [], [10])
        self.read(["Body: plain", "", "x" * 60], [], [120] * 60)
        self.read(["Body: plain", "", " " * 59 + "x"], [], [32] * 59 + [120])
        for sign in SIGNS[1:]:
            self.read(["Body: plain", "", sign + " " + sign], [], [ord(sign), 32, ord(sign)])

    def test_plain_rows_may_look_like_anything(self):
        for row in ("--b0", "--b0--", "Body: plain", "=?", "=", "a=", "From: x", "#"):
            self.read(["Body: plain", "", row, row], [], [ord(sign) for sign in f"{row}\n{row}"])

    def test_bytes_by_sixteens(self):
        self.read(["Body: sixteens", "", "a=3D=", "b=20", ""], [], [97, 61, 98, 32, 10])
        self.read(["Body: sixteens", "", ""], [], [])
        self.read(["Body: sixteens", "", "a=62c"], [], [97, 98, 99])

    def test_bytes_by_sixty_four(self):
        self.read(["Body: sixty", "", "aGk="], [], [104, 105])
        self.read(["Body: sixty", "", "A" * 60, "AA=="], [], [0] * 46)

    def test_no_rows_of_sixty_tell_no_bytes(self):
        self.read(["Body: sixty", ""], [], [])

    def test_headers(self):
        self.read(["From: Ann <a@b>", "REPLY-TO: x", "  y  z", "about: =?SGk=?=", "X:", "x:y", "Marks: a, b", *X],
                  [("from", [("one", "Ann", "a@b")]), ("reply-to", "x y z"), ("about", [72, 105]), ("x", ""), ("x", "y"),
                   ("marks", ["a", "b"])], [120])

    def test_headers_of_a_letter_may_lack_or_come_again(self):
        self.read(["Id: <a@b>", "Id: <a@b>", *X], [("id", ["a@b"])] * 2, [120])

    def test_the_header_body_in_other_ways(self):
        for rows in (["BODY: plain"], ["body:plain"], ["bOdY:", " plain"], ["Body:   plain  "], ["Body: plain", "  "],
                     ["Body: ", "  ", " plain", " "]):
            self.read([*rows, "", "x"], [], [120])
        self.read(["body:", " pieces", " z9", "", "--z9", *X, "--z9--"], [], None, [([], [120], None)])

    def test_pieces(self):
        piece = ([], [120], None)
        self.read(["Body: pieces b0", "", "--b0", *X, "--b0--"], [], None, [piece])
        self.read(["A: b", "Body: pieces b0", "", "--b0", "C: d", *X, "--b0", *X, "--b0--"], [("a", "b")], None,
                  [([("c", "d")], [120], None), piece])
        self.read(["Body: pieces x", "", *["--x", *X] * 8, "--x--"], [], None, [piece] * 8)

    def test_borders(self):
        for border in ("a", "z", "0", "9", "b77", "0" * 12, "z" * 12, "a0b1c2d3e4f5", "body"):
            self.read([f"Body: pieces {border}", "", f"--{border}", *X, f"--{border}--"], [], None, [([], [120], None)])

    def test_rows_that_only_look_like_borders(self):
        rows = ["--b", "--b00", "--b0-", "--b0---", "--b0 -", " --b0", "-b0", "--B0", "--b1--", "b0", "--"]
        row = [ord(sign) for sign in "\n".join(rows)]
        self.read(["Body: pieces b0", "", "--b0", "Body: plain", "", *rows, "--b0--"], [], None, [([], row, None)])

    def test_bodies_within_end_at_the_border(self):
        self.read(["Body: pieces b", "", "--b", "Body: sixty", "", "--b", "Body: sixty", "", "AA==", "--b", "Body: sixteens", "",
                   "=00", "--b", "Body: plain", "", "", "--b--"], [], None,
                  [([], [], None), ([], [0], None), ([], [0], None), ([], [], None)])

    def test_pieces_within_pieces(self):
        piece = ([], [120], None)
        for times in (1, 2, 3):
            piece = ([], None, [piece])
            self.read(within(X, times), *piece)
        inner = ["Body: pieces i", "", "--i", *X, "--i", *X, "--i--"]
        two = ([], None, [([], [120], None)] * 2)
        self.read(["Body: pieces o", "", "--o", *inner, "--o", *inner, "--o", *X, "--o--"], [], None,
                  [two, two, ([], [120], None)])

    def test_a_piece_ends_at_the_borders_of_all_around_it(self):
        # The outer one's border stands where the inner ones' borders are read, so those of like names are the outer one's.
        self.read(["Body: pieces b", "", "--b", "Body: pieces c", "", "--c", "Body: plain", "", "--d", "--c--", "--b", *X,
                   "--b--"], [], None, [([], None, [([], [45, 45, 100], None)]), ([], [120], None)])

    def test_there_and_back(self):
        bodies = [[], [10], [120], [32], [37] * 9, some_bytes(200), [ord(sign) for sign in "--b0\n--b1--"]]
        pieces = [Piece([Header("a", "b")] * (len(body) % 3), body) for body in bodies]
        for one, other in itertools.product(pieces, repeat=2):
            for piece in (one, Piece([], None, [one, other]), Piece([Header("x", "")], None, [Piece([], None, [one]), other])):
                rows = piece_rows(piece)
                self.assertEqual(told(piece_of(rows)), told(piece))
                self.assertEqual(piece_rows(piece_of(rows)), rows)


class Refused(unittest.TestCase):
    def row(self, rows, line, place=1):
        self.at(BadRow, rows, line, place)

    def header(self, rows, line, place):
        self.at(BadHeader, rows, line, place)

    def body(self, rows, line, place=1):
        self.at(BadBody, rows, line, place)

    def at(self, kind, rows, line, place):
        with self.subTest(rows=rows):
            self.assertEqual(where(kind, piece_of, rows), (line, place))

    def test_what_is_no_list(self):
        for thing in NO_LISTS:
            self.at(BadRow, thing, 1, 1)

    def test_what_is_no_text(self):
        for thing in NO_TEXTS:
            self.row([thing], 1)
            self.row(["From: wrong", "x", *X, thing, thing], 6)
            self.row(["Body: what", thing], 2)

    def test_no_rows(self):
        self.row([], 1)

    def test_rows_of_headers_that_are_wrong(self):
        for row, place in (("a", 2), ("a:\t", 3), ("-a:", 1), ("abcdefghi:", 9), ("a_b:", 2), ("a-b-c-d:", 6), ("x:" + "y" * 59, 61),
                           ("--b0", 1), ("a b:", 2)):
            self.row([row, *X], 1, place)
            self.row(["A: b", row, *X], 2, place)
            self.row(["Body: pieces b", "", "--b", "A: b", row, *X, "--b--"], 5, place)
        for sign in NO_SIGNS:
            self.row([f"A: {sign}", *X], 1, 4)
            self.row(["A: b", f" {sign}", *X], 2, 2)
            self.row([f"Body: plain{sign}", "", "x"], 1, 12)
            self.row(["Body: plain", f" {sign}", "", "x"], 2, 2)
        self.row(["A: b", " " * 61, *X], 2, 61)

    def test_the_first_row_of_a_piece_goes_on_with_nothing(self):
        self.row([" a", *X], 1)
        self.row(["Body: pieces b", "", "--b", " a", *X, "--b--"], 4)

    def test_an_empty_row_ahead_of_the_header_body(self):
        self.row(["", *X], 1)
        self.row(["A: b", "", *X], 2)
        self.row(["A: b", ""], 2)
        self.row([""], 1)
        self.row(["Body: pieces b", "", "--b", "A: b", "", *X, "--b--"], 5)

    def test_a_row_that_is_not_empty_behind_the_header_body(self):
        for row in ("A: b", "Body: plain", "x", "%", "--b0", "a:" + "x" * 70, "\t"):
            for way in BODIES + ("pieces b",):
                self.row([f"Body: {way}", row, "", "x"], 2)
                self.row(["A: b", f"Body: {way}", " ", row], 4)
                self.row(["Body: pieces o", "", "--o", f"Body: {way}", row, "--o--"], 5)

    def test_no_header_body(self):
        self.row(["A: b"], 2)
        self.row(["A: b", " c"], 3)
        self.row(["Body: pieces b", "", "--b", "--b--"], 4)
        self.row(["Body: pieces b", "", "--b"], 4)
        self.row(["Body: pieces b", "", "--b", "A: b", "--b", *X, "--b--"], 5)

    def test_no_empty_row(self):
        for way in BODIES + ("pieces b",):
            self.row([f"Body: {way}"], 2)
            self.row(["A: b", "Body:", f" {way}"], 4)
            self.row(["Body: pieces o", "", "--o", f"Body: {way}", "--o", *X, "--o--"], 5)
            self.row(["Body: pieces o", "", "--o", f"Body: {way}", "--o--"], 5)
            self.row(["Body: pieces o", "", "--o", f"Body: {way}"], 5)

    def test_no_row_of_plain_or_sixteens(self):
        for way in ("plain", "sixteens"):
            self.row([f"Body: {way}", ""], 3)
            self.row(["A: b", f"Body: {way}", ""], 4)
            self.row(["Body: pieces b", "", "--b", f"Body: {way}", "", "--b", *X, "--b--"], 6)
            self.row(["Body: pieces b", "", "--b", *X, "--b", f"Body: {way}", "", "--b--"], 10)
            self.row(["Body: pieces b", "", "--b", f"Body: {way}", ""], 6)

    def test_no_border_behind_a_piece(self):
        self.row(["Body: pieces b", "", "--b", *X], 7)
        self.row(["Body: pieces b", "", "--b", *X, "--b", *X], 11)
        self.row(["Body: pieces b", "", "--b", *X, "--c--"], 8)
        self.row(["Body: pieces b", "", "--b", "Body: sixty", ""], 6)
        self.row(["Body: pieces o", "", "--o", "Body: pieces i", "", "--i", *X, "--o", *X, "--o--"], 10)
        self.row(["Body: pieces o", "", "--o", "Body: pieces i", "", "--i", *X, "--o--"], 10)
        self.row(["Body: pieces o", "", "--o", "Body: pieces i", "", "--i", *X], 10)
        self.row(["Body: pieces o", "", "--o", "Body: pieces i", "", "--i", *X, "--i--"], 11)

    def test_rows_behind_the_last_border(self):
        for row in ("", "x", "--b", "--b--", "Body: plain", "%", " "):
            self.row(["Body: pieces b", "", "--b", *X, "--b--", row], 8)
            self.row(["Body: pieces b", "", "--b", *X, "--b--", row, row], 8)
            self.row(["Body: pieces o", "", "--o", "Body: pieces b", "", "--b", *X, "--b--", row, "--o--"], 11)

    def test_a_border_of_those_around_ends_all_within(self):
        # With borders of one name the inner one has none of its own.
        self.body(["Body: pieces b", "", "--b", "Body: pieces b", "", "--b", *X, "--b--", "--b--"], 4)
        self.row(["Body: pieces b", "", "--b", "Body: pieces c", "", "--c", "Body: plain", "", "--b", *X, "--b--"], 9)
        self.row(["Body: pieces b", "", "--b", "Body: pieces c", "", "--c", *X, "--b--", "--c--", "--b--"], 10)

    def test_headers_that_are_wrong(self):
        self.header(["From: Ann", *X], 1, 4)
        self.header(["A: b", "Date: 2031-04-05 Sun 17:30 +0130", *X], 2, 13)
        self.header(["A:", " b", "Id:", *X], 3, 1)
        self.header(["Marks: b, aB", *X], 1, 4)
        self.header(["Body: pieces b", "", "--b", *X, "--b", "To: <a@b", *X, "--b--"], 8, 5)

    def test_the_place_of_a_wrong_header_is_that_in_its_value(self):
        self.header(["A: b", "refers:", "  <a@b>", "    <c@d>    <E@f>", *X], 2, 14)
        self.header(["to:   Ann   Lee", "  <a@B>", *X], 1, 12)

    def test_the_first_wrong_header_is_told(self):
        self.header(["Id: <A@b>", "From: x", *X], 1, 2)
        self.header(["From: x", "Id: <A@b>", *X], 1, 2)

    def test_wrong_rows_are_told_ahead_of_wrong_headers(self):
        self.row(["Id: x", "y", *X], 2, 2)
        self.row(["Id: x", "y: \t", *X], 2, 4)
        self.row(["Id: x", ""], 2)
        self.row(["Id: x"], 2)
        self.row(["Id: x", "Body: plain", "y", "x"], 3)
        self.row(["Id: x", "Body: plain"], 3)
        self.row(["Id: x", "Body: what", " \t", "", "x"], 3, 2)
        self.row(["Id: x", "Body: what", "y"], 3)
        self.row(["Body: pieces b", "", "--b", "Id: x", "Body: plain", "--b--"], 6)

    def test_wrong_headers_are_told_ahead_of_all_else_in_the_piece_and_behind_it(self):
        self.header(["Id: x", "Body: what", ""], 1, 1)
        self.header(["Id: x", "Body: plain", ""], 1, 1)
        self.header(["Id: x", "Body: plain", "", " "], 1, 1)
        self.header(["Id: x", "Body: pieces b", "", "x"], 1, 1)
        self.header(["Body: pieces b", "", "--b", "Id: x", *X, "--b", "y", "--b--"], 4, 1)
        self.header(["Body: pieces b", "", "--b", "Id: x", *X, "--b--", ""], 4, 1)
        self.header(["Body: pieces b", "", "--b", "Id: x", *X], 4, 1)

    def test_a_way_that_is_none(self):
        for way in ("", "Plain", "PLAIN", "plain x", "plains", "sixteen", "sixty-four", "pieces", "pieces b c", "pieces B", "pieces -",
                    "pieces b-", "pieces --b", "pieces " + "b" * 13, "Pieces b", "pieces b_", "b", "bytes"):
            self.body([f"Body: {way}", "", "x"], 1)
            self.body(["A: b", "Body:", f" {way}", "", "--b", *X, "--b--"], 2)
            self.body(["Body: pieces b", "", "--b", f"Body: {way}", "", "x", "--b--"], 4)

    def test_borders_that_are_none_though_they_stand_in_the_rows(self):
        for border in ("", "B", "-", "b-", "--", "--b", "b_", "bA", "b.", "b" * 13, "b c", "b=", "0" * 13):
            self.body([f"Body: pieces {border}", "", f"--{border}", *X, f"--{border}--"], 1)

    def test_a_way_that_is_none_is_told_ahead_of_rows_behind_it(self):
        self.body(["Body: what", "x"], 1)
        self.body(["Body: what"], 1)
        self.body(["Body: what", "", " "], 1)
        self.body(["A: b", "Body: pieces", "--b"], 2)
        self.body(["Body: pieces b", "", "--b", "Body: what", "--b", "x", "--b--"], 4)

    def test_no_border_ahead_of_the_first_piece(self):
        for row in ("", "x", "--c", "--b--", "--b ", " --b", "--B", "Body: plain", "--b0", "%"):
            self.body(["Body: pieces b", "", row, *X, "--b--"], 1)
            self.body(["A: b", "Body: pieces b", "", row, "--b", *X, "--b--"], 2)
        self.body(["Body: pieces b", ""], 1)
        self.body(["Body: pieces o", "", "--o", "Body: pieces b", "", "--o--"], 4)

    def test_nine_pieces(self):
        for closed in (["--b--"], []):
            self.body(["Body: pieces b", "", *["--b", *X] * 9, *closed], 1)
            self.body(["A: b", "Body: pieces b", "", *["--b", *X] * 30, *closed], 2)
        self.body(["Body: pieces b", "", *["--b", *X] * 8, "--b", "--b--"], 1)
        self.body(["Body: pieces o", "", "--o", "Body: pieces b", "", *["--b", *X] * 9, "--b--", "--o--"], 4)

    def test_nine_pieces_are_told_ahead_of_what_stands_in_them(self):
        self.body(["Body: pieces b", "", "--b", "Id: x", *X, *["--b", *X] * 8, "--b--"], 1)
        self.body(["Body: pieces b", "", *["--b"] * 9], 1)
        self.body(["Body: pieces b", "", "--b", "%", *["--b", *X] * 8, "--b--", "x"], 1)

    def test_nine_borders_beyond_the_closing_one(self):
        self.row(["Body: pieces b", "", *["--b", *X] * 8, "--b--", "--b", *X, "--b--"], 36)

    def test_too_deep(self):
        self.assertEqual(len(piece_of(within(X, 3)).pieces), 1)
        self.body(within(X, 4), 10)
        self.body(within(X, 5), 10)
        self.body(within(["A: b", *within(X, 1, "i")], 3), 11)
        self.body(within(within(X, 1, "b"), 3, "x"), 10)

    def test_too_deep_is_told_ahead_of_what_stands_in_them(self):
        self.body(within(["Body: pieces i", "", "--i", "Id: x", "%"], 3), 10)
        self.body(within(["Body: pieces i", "", "x"], 3), 10)
        self.body(within(["Body: pieces i", ""], 3), 10)
        self.body(within(["Body: pieces i"], 3), 10)
        self.header(within(["Id: x", *within(X, 1, "i")], 3), 10, 1)
        self.row(within(["x", *within(X, 1, "i")], 3), 10, 2)

    def test_wrong_plain_rows(self):
        self.body(["Body: plain", "", "x" * 61], 3, 61)
        self.body(["Body: plain", "", "x", "x "], 4, 3)
        self.body(["Body: plain", "", "x", " ", "%"], 4, 2)
        self.body(["Body: plain", "", "x  "], 3, 4)
        self.body(["Body: plain", "", "x" * 58 + " "], 3, 60)
        self.body(["Body: pieces b", "", "--b", "Body: plain", "", "x ", "--b--"], 6, 3)
        for sign in NO_SIGNS:
            self.body(["Body: plain", "", "x", f"x{sign}y"], 4, 2)
            self.body(["Body: plain", "", "x", f"x {sign}"], 4, 3)
            self.body(["Body: plain", "", "x" * 60 + sign], 3, 61)

    def test_a_blank_that_nothing_can_follow(self):
        self.body(["Body: plain", "", "x" * 59 + " "], 3, 60)
        self.body(["Body: plain", "", "x" * 59 + " x"], 3, 60)
        self.body(["Body: plain", "", " " * 60], 3, 60)
        self.body(["Body: plain", "", "x" * 58 + "  "], 3, 60)

    def test_wrong_rows_by_sixteens(self):
        self.body(["Body: sixteens", "", "a="], 3, 3)
        self.body(["Body: sixteens", "", "a", "b=0a"], 4, 4)
        self.body(["Body: sixteens", "", "x" * 61], 3, 61)
        self.body(["Body: sixteens", "", "a ", "b"], 3, 3)
        self.body(["A: b", "Body: pieces b", "", "--b", "Body: sixteens", "", "a", "=", "--b--"], 8, 2)

    def test_wrong_rows_by_sixty_four(self):
        self.body(["Body: sixty", "", ""], 3)
        self.body(["Body: sixty", "", "AAA"], 3, 4)
        self.body(["Body: sixty", "", "AAAA", "AAAA"], 3, 5)
        self.body(["Body: sixty", "", "A" * 60, "AB=="], 4, 3)
        self.body(["Body: sixty", "", "A" * 60, "A" * 60, "!"], 5, 1)
        self.body(["Body: pieces b", "", "--b", "Body: sixty", "", "AA=", "--b--"], 6, 4)

    def test_the_first_wrong_piece_is_told(self):
        self.body(["Body: pieces b", "", "--b", "Body: plain", "", " ", "--b", "Id: x", *X], 6, 2)
        self.row(["Body: pieces b", "", "--b", "Body: plain", "--b", "Id: x", *X], 5)
        self.body(["Body: pieces b", "", "--b", *X, "--b", "Body: plain", "", " "], 10, 2)


class Kept(unittest.TestCase):
    def test_rows_handed_in_stay(self):
        rows = within(["A: b", *X], 2)
        before = list(rows)
        piece = piece_of(rows)
        self.assertEqual(rows, before)
        rows[1:] = ["x"] * 3
        self.assertEqual(piece_rows(piece), before)

    def test_two_pieces_of_like_rows_are_not_one(self):
        one, other = piece_of(X), piece_of(X)
        self.assertIsNot(one.row, other.row)
        self.assertIsNot(one.headers, other.headers)

    def test_kinds_of_what_is_told(self):
        piece = piece_of(within(X, 1))
        self.assertIs(type(piece), Piece)
        self.assertIs(type(piece.headers), list)
        self.assertIsNone(piece.row)
        self.assertIs(type(piece.pieces), list)
        self.assertIs(type(piece.pieces[0]), Piece)
        self.assertIs(type(piece.pieces[0].row), list)
        self.assertIsNone(piece.pieces[0].pieces)


if __name__ == "__main__":
    unittest.main()
