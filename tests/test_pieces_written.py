"""letterhouse/pieces.py: pieces and how they are written (points 1, 2 and 11)."""

import itertools
import unittest

from letterhouse.errors import BadPiece, TooLong
from letterhouse.headers import About, Header, Ids, Marks, People
from letterhouse.pieces import Piece, piece_of, piece_rows
from letterhouse.rows import folded
from letterhouse.sixteens import sixteens_of
from letterhouse.sixty import sixty_of
from things import NO_BYTES, NO_LISTS, SIGNS, refusal, some_bytes

A = Header("a", "b")
X = Piece([], [120])


def text_bytes(*rows):
    """The bytes of rows with a byte 10 between."""
    return [ord(sign) for sign in "\n".join(rows)]


def within(piece, times):
    """A piece with so many others round it."""
    for _ in range(times):
        piece = Piece([], None, [piece])
    return piece


class Made(unittest.TestCase):
    def test_fields(self):
        piece = Piece([A], [1, 2])
        self.assertEqual((piece.headers, piece.row, piece.pieces), ([A], [1, 2], None))
        piece = Piece([A], None, [X])
        self.assertEqual((piece.headers, piece.row, piece.pieces), ([A], None, [X]))
        piece = Piece([])
        self.assertEqual((piece.headers, piece.row, piece.pieces), ([], None, None))

    def test_lists_are_copied(self):
        headers, row, pieces = [A], [1], [X]
        piece = Piece(headers, row, pieces)
        for given in (headers, row, pieces):
            given.append(7)
        self.assertEqual((piece.headers, piece.row, piece.pieces), ([A], [1], [X]))
        headers.clear()
        self.assertEqual(piece.headers, [A])

    def test_what_is_no_list_is_kept_as_it_is(self):
        for thing in (None, 7, "abc", b"abc", (A,), {}, X, object(), True):
            piece = Piece(thing, thing, thing)
            self.assertIs(piece.headers, thing)
            self.assertIs(piece.row, thing)
            self.assertIs(piece.pieces, thing)


class Bodies(unittest.TestCase):
    def written(self, row, *rows):
        with self.subTest(row=row):
            self.assertEqual(piece_rows(Piece([], row)), list(rows))
            self.assertEqual(piece_of(list(rows)).row, row)

    def plain(self, *rows):
        self.written(text_bytes(*rows), "Body: plain", "", *rows)

    def test_no_bytes_are_one_empty_row(self):
        self.written([], "Body: plain", "", "")

    def test_plain_rows(self):
        self.plain("Hello,")
        self.plain("Hello,", "", "Ann")
        self.plain("", "")
        self.plain("", "a", "")
        self.plain("a", "", "")
        self.plain(" a", "  b  c")
        self.plain("x" * 60)
        self.plain("x" * 60, "y" * 60, "z")
        self.plain(" " * 59 + "x")

    def test_each_sign_stands_plain(self):
        for sign in SIGNS:
            if sign != " ":
                self.plain(f"{sign}a{sign}", sign)
        self.plain(SIGNS[:60].lstrip(), SIGNS[60:])

    def test_rows_of_sixty_one_signs_are_not_plain(self):
        self.written(text_bytes("x" * 61), "Body: sixteens", "", "x" * 59 + "=", "xx")
        self.written(text_bytes("a", "x" * 61, "b"), "Body: sixteens", "", "a", "x" * 59 + "=", "xx", "b")

    def test_a_blank_at_the_end_of_a_row_is_not_plain(self):
        self.written(text_bytes("hello "), "Body: sixteens", "", "hello=20")
        self.written(text_bytes("hello you "), "Body: sixteens", "", "hello you=20")
        self.written(text_bytes("hello you ", "b"), "Body: sixteens", "", "hello you=20", "b")
        self.written(text_bytes("it is I ", ""), "Body: sixteens", "", "it is I=20", "")
        self.written(text_bytes("hello you", "here ", "here"), "Body: sixteens", "", "hello you", "here=20", "here")
        self.written([32], "Body: sixteens", "", "=20")
        self.written([10, 32], "Body: sixteens", "", "", "=20")

    def test_what_is_no_sign_is_not_plain(self):
        for byte in (0, 9, 11, 13, 31, 37, 127, 128, 255):
            self.written([*text_bytes("hello you"), byte], "Body: sixteens", "", f"hello you={byte:02X}")
            self.written([byte] * 3, "Body: sixty", "", *sixty_of([byte] * 3))
            self.written([byte], "Body: sixteens", "", f"={byte:02X}")

    def test_of_sixteens_and_sixty_the_shorter_one(self):
        # Four bytes are eight signs by sixty-four, and as many by sixteens where two of them stand as they are.
        self.written([0, 0, 97, 97], "Body: sixteens", "", "=00=00aa")
        self.written([0, 0, 0, 97], "Body: sixty", "", "AAAAYQ==")
        self.written([0, 97, 97, 97], "Body: sixteens", "", "=00aaa")
        self.written([0] * 15 + [97] * 13, "Body: sixty", "", *sixty_of([0] * 15 + [97] * 13))

    def test_line_ends_are_counted(self):
        # Both are eight signs, ends of rows counted, and with a byte more it is one sign less by sixty-four.
        self.written([0, 10, 0, 10], "Body: sixteens", "", "=00", "=00", "")
        self.written([0, 10, 0, 10, 97], "Body: sixty", "", "AAoACmE=")

    def test_the_way_is_that_with_fewer_signs(self):
        ways = set()
        for many in range(1, 130):
            for low in range(0, 9):
                row = [byte if step % 9 < low else 97 for step, byte in enumerate(some_bytes(many))]
                sixteens = sixteens_of(row)
                sixty = sixty_of(row)
                rows = piece_rows(Piece([], row))
                if rows[0] != "Body: plain":
                    way = ("sixteens", sixteens) if len("\n".join(sixteens)) <= len("\n".join(sixty)) else ("sixty", sixty)
                    self.assertEqual(rows, [f"Body: {way[0]}", "", *way[1]])
                ways.add(rows[0])
                self.assertEqual(piece_of(rows).row, row)
        self.assertEqual(len(ways), 3)

    def test_all_of_three_bytes(self):
        for row in itertools.product((10, 32, 97, 37, 61, 255), repeat=3):
            self.assertEqual(piece_of(piece_rows(Piece([], list(row)))).row, list(row))


class Headers(unittest.TestCase):
    def test_headers_stand_in_their_order_ahead_of_the_body(self):
        piece = Piece([Header("x", "1"), A, Header("x", ""), Marks("marks", ["m", "n"]), Ids("id", ["a@b"])], [120])
        self.assertEqual(piece_rows(piece), ["X: 1", "A: b", "X:", "Marks: m, n", "Id: <a@b>", "Body: plain", "", "x"])

    def test_headers_are_folded(self):
        value = "word " * 20 + "end"
        rows = piece_rows(Piece([Header("reply-to", value), A], []))
        self.assertEqual(rows, folded("reply-to", value) + ["A: b", "Body: plain", "", ""])

    def test_a_word_of_59_signs_and_one_more(self):
        rows = piece_rows(Piece([Header("x", "y" * 59)], []))
        self.assertEqual(rows, ["X:", " " + "y" * 59, "Body: plain", "", ""])
        refusal(TooLong, piece_rows, Piece([Header("x", "a " + "y" * 60)], []))
        refusal(TooLong, piece_rows, within(Piece([Header("x", "y" * 60)], []), 3))

    def test_names_with_many_backslashes_are_too_long(self):
        piece = Piece([People("to", [("one", "\\" * 29, "a@b")])], [])
        refusal(TooLong, piece_rows, piece)
        piece = Piece([People("to", [("one", "\\" * 28, "a@b")])], [])
        self.assertEqual(piece_rows(piece)[:2], ["To:", ' "' + "\\" * 56 + '"'])

    def test_bytes_of_about_are_never_too_long(self):
        piece = Piece([About("about", [97] * 60)], [])
        self.assertEqual(piece_of(piece_rows(piece)).headers[0].told(), [97] * 60)


class Pieces(unittest.TestCase):
    def test_one_piece(self):
        self.assertEqual(piece_rows(Piece([A], None, [X])),
                         ["A: b", "Body: pieces b0", "", "--b0", "Body: plain", "", "x", "--b0--"])

    def test_several_pieces(self):
        piece = Piece([], None, [Piece([A], [10]), X, Piece([], [255])])
        self.assertEqual(piece_rows(piece), ["Body: pieces b0", "", "--b0", "A: b", "Body: plain", "", "", "", "--b0",
                                             "Body: plain", "", "x", "--b0", "Body: sixteens", "", "=FF", "--b0--"])

    def test_eight_pieces(self):
        rows = piece_rows(Piece([], None, [X] * 8))
        self.assertEqual(rows, ["Body: pieces b0", ""] + ["--b0", "Body: plain", "", "x"] * 8 + ["--b0--"])

    def test_pieces_within_pieces(self):
        self.assertEqual(piece_rows(within(X, 3)), [
            "Body: pieces b2", "", "--b2", "Body: pieces b1", "", "--b1", "Body: pieces b0", "", "--b0", "Body: plain", "", "x",
            "--b0--", "--b1--", "--b2--"])

    def test_pieces_beside_pieces_have_like_borders(self):
        rows = piece_rows(Piece([], None, [within(X, 1), within(X, 1), X]))
        self.assertEqual([row for row in rows if row.startswith("--")],
                         ["--b1", "--b0", "--b0--", "--b1", "--b0", "--b0--", "--b1", "--b1--"])

    def test_an_empty_row_behind_the_last_one_stays(self):
        self.assertEqual(piece_rows(Piece([], None, [Piece([], text_bytes("a", ""))])),
                         ["Body: pieces b0", "", "--b0", "Body: plain", "", "a", "", "--b0--"])


class Borders(unittest.TestCase):
    def border(self, number, *rows):
        """The border of a piece with one of plain rows within."""
        with self.subTest(rows=rows):
            given = Piece([], None, [Piece([], text_bytes(*rows))])
            told = piece_rows(given)
            self.assertEqual(told[0], f"Body: pieces b{number}")
            self.assertEqual(told[2], f"--b{number}")
            self.assertEqual(told[-1], f"--b{number}--")
            self.assertEqual(piece_of(told).pieces[0].row, given.pieces[0].row)

    def test_rows_that_are_no_borders(self):
        self.border(0, "-b0", "b0", "--", "--b", "--a0", "x--b0", " --b0", "--B0", "--c", "---b0")

    def test_rows_that_begin_with_a_border(self):
        self.border(1, "--b0")
        self.border(1, "--b0--")
        self.border(1, "--b0x")
        self.border(1, "--b0 and more")
        self.border(1, "--b00")
        self.border(1, "--b01")
        self.border(0, "--b1")
        self.border(2, "--b0", "--b1")
        self.border(2, "--b1", "--b0--")
        self.border(1, "--b0", "--b2")
        self.border(0, "--b1", "--b2")

    def test_the_beginning_of_a_greater_number_is_taken_too(self):
        self.border(2, "--b0", "--b10")
        self.border(2, "--b0", "--b19999 x")
        self.border(11, *[f"--b{number}" for number in range(11)])
        self.border(10, *[f"--b{number}" for number in range(10)])
        self.border(0, "--b10", "--b20")

    def test_the_first_number_that_is_free(self):
        numbers = list(range(120))
        self.border(120, *[f"--b{number}" for number in numbers])
        numbers.remove(77)
        self.border(77, *[f"--b{number}" for number in reversed(numbers)])
        numbers.remove(11)
        # The numbers from 110 to 119 begin with 11.
        self.border(77, *[f"--b{number}" for number in numbers])
        self.border(11, *[f"--b{number}" for number in numbers if number < 110])

    def test_rows_of_all_pieces_count(self):
        plain = Piece([], text_bytes("--b1"))
        rows = piece_rows(Piece([], None, [X, within(X, 1), plain]))
        self.assertEqual(rows[0], "Body: pieces b2")
        rows = piece_rows(Piece([], None, [Piece([], text_bytes("--b0 ", "x" * 50))]))
        self.assertEqual(rows[:8], ["Body: pieces b1", "", "--b1", "Body: sixteens", "", "--b0=20", "x" * 50, "--b1--"])

    def test_many_rows_that_begin_with_borders(self):
        many = 9000
        rows = piece_rows(Piece([], None, [Piece([], text_bytes(*[f"--b{number}" for number in range(many)]))]))
        self.assertEqual(rows[0], f"Body: pieces b{many}")

    def test_headers_that_go_on_are_no_borders(self):
        rows = piece_rows(Piece([], None, [Piece([Header("x", "y" * 50 + " --b0")], [])]))
        self.assertEqual(rows[:5], ["Body: pieces b0", "", "--b0", "X: " + "y" * 50 + " --b0", "Body: plain"])


class Refused(unittest.TestCase):
    def refused(self, *things):
        """Refused alone, and within one, two and three others."""
        for thing in things:
            with self.subTest(thing=thing):
                refusal(BadPiece, piece_rows, thing)
                for times in (1, 2, 3):
                    refusal(BadPiece, piece_rows, within(thing, times))
                refusal(BadPiece, piece_rows, Piece([], None, [X, thing]))

    def test_what_is_no_piece(self):
        self.refused(None, 7, "x", b"x", [], [X], (X,), {}, A, object(), True, Piece, ["Body: plain", "", "x"])

    def test_headers_that_are_no_list(self):
        self.refused(*[Piece(thing, [120]) for thing in NO_LISTS], Piece((A,), []), Piece(A, []), Piece(None, []))

    def test_headers_that_are_none(self):
        self.refused(*[Piece([thing], [120]) for thing in (None, "a", "A: b", ("a", "b"), X, [A], Header)])
        self.refused(Piece([A, None], [120]), Piece([A, A, "a"], [120]))

    def test_a_header_called_body(self):
        self.refused(Piece([Header("body", "plain")], [120]), Piece([A, Header("body", "x"), A], [120]))

    def test_neither_bytes_nor_pieces(self):
        self.refused(Piece([]), Piece([A]), Piece([A], None, None))

    def test_bytes_and_pieces(self):
        self.refused(Piece([], [120], [X]), Piece([], [], [X]), Piece([], [120], []), Piece([], "x", [X]),
                     Piece([], [120], "x"), Piece([], 0, [X]), Piece([], [], 0))

    def test_what_are_no_bytes(self):
        self.refused(*[Piece([], thing) for thing in NO_LISTS if thing is not None])
        self.refused(*[Piece([], [120, thing]) for thing in NO_BYTES])

    def test_what_are_no_pieces(self):
        self.refused(*[Piece([], None, thing) for thing in NO_LISTS if thing is not None])
        self.refused(*[Piece([], None, [thing]) for thing in (None, 7, "x", [X], A, Piece, [])])
        self.refused(Piece([], None, [X, None]), Piece([], None, (X,)))

    def test_no_pieces_and_nine(self):
        self.refused(Piece([], None, []), Piece([], None, [X] * 9))

    def test_five_deep(self):
        self.assertEqual(len(piece_rows(within(X, 3))), 15)
        self.refused(within(X, 4), within(X, 5), within(X, 4000))
        refusal(BadPiece, piece_rows, Piece([], None, [X, within(X, 2), within(X, 3), X]))

    def test_a_bad_piece_is_told_ahead_of_a_long_word(self):
        long = Piece([Header("x", "y" * 60)], [])
        for bad in (Piece([]), None, Piece([None], []), within(X, 3)):
            self.refused(Piece([], None, [long, bad]), Piece([Header("x", "y" * 60)], None, [bad]))
        refusal(BadPiece, piece_rows, Piece([Header("x", "y" * 60)]))


class Kept(unittest.TestCase):
    def test_lists_handed_in_stay(self):
        headers, row = [A, Header("x", "")], [120, 10, 255]
        piece = Piece(headers, row)
        pieces = [piece, X]
        told = piece_rows(Piece(headers, None, pieces))
        self.assertEqual((headers, row, pieces), ([headers[0], headers[1]], [120, 10, 255], [piece, X]))
        self.assertEqual((piece.headers, piece.row, piece.pieces), (headers, row, None))
        self.assertEqual(piece_rows(Piece(headers, None, pieces)), told)

    def test_told_rows_may_be_changed(self):
        piece = Piece([A], None, [X, Piece([], [])])
        before = piece_rows(piece)
        piece_rows(piece).clear()
        told = piece_rows(piece)
        told[0] = "x"
        self.assertEqual(piece_rows(piece), before)
        before.append("x")
        self.assertEqual(len(piece_rows(piece)), len(before) - 1)


if __name__ == "__main__":
    unittest.main()
