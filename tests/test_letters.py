"""letterhouse/letters.py: letters written, read and asked (points 1, 2 and 13)."""

import copy
import itertools
import unittest

from letterhouse.errors import BadBody, BadHeader, BadPiece, BadRow, TooLong
from letterhouse.headers import About, Header, Ids, Marks, People, When
from letterhouse.letters import id_of, letter_of, letter_text, minute_of, said, sender_of
from letterhouse.pieces import Piece
from things import NO_SIGNS, NO_TEXTS, SIGNS, refusal, where

ID, FROM, DATE = "Id: <l@h>", "From: Ann <ann@h>", "Date: 2031-04-05 Sat 17:30 +0130"
HEAD = [ID, FROM, DATE]
BODY = ["Body: plain", "", "Hello"]
HEADERS = [Ids("id", ["l@h"]), People("from", [("one", "Ann", "ann@h")]), When("date", (1067812800, 90))]
HELLO = [72, 101, 108, 108, 111]
MORE = {"answers": ("Answers: <x@y>", Ids("answers", ["x@y"])), "refers": ("Refers: <x@y> <z@y>", Ids("refers", ["x@y", "z@y"])),
        "marks": ("Marks: a, b", Marks("marks", ["a", "b"]))}
PARTS = {"id": (ID, HEADERS[0]), "from": (FROM, HEADERS[1]), "date": (DATE, HEADERS[2]), **MORE}


def text_of(*rows):
    return "\n".join(rows)


class Written(unittest.TestCase):
    def test_a_letter(self):
        self.assertEqual(letter_text(Piece(HEADERS, HELLO)), text_of(*HEAD, *BODY))

    def test_headers_stand_in_their_order(self):
        for headers in itertools.permutations(range(3)):
            piece = Piece([HEADERS[at] for at in headers], HELLO)
            self.assertEqual(letter_text(piece), text_of(*[HEAD[at] for at in headers], *BODY))

    def test_a_letter_of_pieces(self):
        piece = Piece(HEADERS, None, [Piece([], HELLO)] * 2)
        self.assertEqual(letter_text(piece), text_of(*HEAD, "Body: pieces b0", "", "--b0", *BODY, "--b0", *BODY, "--b0--"))

    def test_no_bytes(self):
        self.assertEqual(letter_text(Piece(HEADERS, [])), text_of(*HEAD, "Body: plain", "", ""))

    def test_what_is_no_piece(self):
        for thing in (None, 7, "x", [], text_of(*HEAD, *BODY), HEADERS, Piece):
            refusal(BadPiece, letter_text, thing)
        for piece in (Piece(HEADERS), Piece(HEADERS, [256]), Piece(HEADERS, None, []), Piece(tuple(HEADERS), HELLO),
                      Piece([*HEADERS, Header("body", "plain")], HELLO), Piece(HEADERS, HELLO, [Piece([], [])]),
                      Piece(HEADERS, None, [Piece([], [])] * 9), Piece(HEADERS, None, [Piece([])])):
            refusal(BadPiece, letter_text, piece)

    def test_headers_that_lack_or_come_again(self):
        for name, (_, header) in PARTS.items():
            with self.subTest(name=name):
                refusal(BadPiece, letter_text, Piece([*HEADERS, header, header], HELLO))
        for at in range(3):
            refusal(BadPiece, letter_text, Piece(HEADERS[:at] + HEADERS[at + 1:], HELLO))
            refusal(BadPiece, letter_text, Piece([*HEADERS, HEADERS[at]], HELLO))
        refusal(BadPiece, letter_text, Piece([], HELLO))

    def test_headers_of_pieces_within_do_not_count(self):
        self.assertTrue(letter_text(Piece(HEADERS, None, [Piece(HEADERS * 2, HELLO)])))
        refusal(BadPiece, letter_text, Piece([], None, [Piece(HEADERS, HELLO)]))

    def test_words_that_are_too_long(self):
        refusal(TooLong, letter_text, Piece([*HEADERS, Header("x", "y" * 60)], HELLO))
        refusal(TooLong, letter_text, Piece(HEADERS, None, [Piece([Header("x", "y" * 60)], HELLO)]))
        self.assertTrue(letter_text(Piece([*HEADERS, Header("x", "y" * 59)], HELLO)))

    def test_what_is_no_letter_is_told_ahead_of_words_that_are_too_long(self):
        for headers in ([], HEADERS[1:], HEADERS * 2):
            refusal(BadPiece, letter_text, Piece([Header("x", "y" * 60), *headers], HELLO))


class Read(unittest.TestCase):
    def test_there_and_back(self):
        more = ["To: <a@b>, x: ;", "About: a day out", "Refers: <q@h> <r@h>", "Marks: a, b", "Reply-To: me"]
        pieces = ["Body: pieces b0", "", "--b0", *BODY, "--b0--"]
        for rows in ([*HEAD, *BODY], [*more, *HEAD, *BODY], [*HEAD, *more, *pieces]):
            self.assertEqual(letter_text(letter_of(text_of(*rows))), text_of(*rows))

    def test_what_is_written_otherwise_than_it_was_read(self):
        rows = ["id:<l@h>", "FROM:", '  "Ann"', "   <ann@h>", "dATE: 2031-04-05  Sat", " 17:30 +0130", "bODY:sixteens", "", "=48ello"]
        self.assertEqual(letter_text(letter_of(text_of(*rows))), text_of(*HEAD, *BODY))

    def test_each_sign(self):
        letter = letter_of(text_of(*HEAD, "X: " + SIGNS[1:50], " " + SIGNS[50:], "Body: plain", "", SIGNS[1:50], SIGNS[50:]))
        self.assertEqual(said(letter, "x"), [SIGNS[1:50] + " " + SIGNS[50:]])
        self.assertEqual(letter.row, [ord(sign) for sign in SIGNS[1:50] + "\n" + SIGNS[50:]])

    def test_what_is_no_text(self):
        for thing in NO_TEXTS:
            self.assertEqual(where(BadRow, letter_of, thing), (1, 1))

    def test_the_empty_text(self):
        self.assertEqual(where(BadRow, letter_of, ""), (1, 1))
        self.assertEqual(where(BadRow, letter_of, "\n"), (1, 1))

    def test_what_is_no_sign(self):
        for sign in NO_SIGNS:
            if sign != "\n":
                with self.subTest(sign=sign):
                    self.assertEqual(where(BadRow, letter_of, sign), (1, 1))
                    self.assertEqual(where(BadRow, letter_of, text_of(ID + sign, *HEAD[1:], *BODY)), (1, 10))
                    self.assertEqual(where(BadRow, letter_of, text_of(*HEAD, *BODY, f"ab{sign}")), (7, 3))
                    self.assertEqual(where(BadRow, letter_of, text_of(*HEAD, *BODY, sign)), (7, 1))

    def test_line_ends_of_another_kind_are_no_signs(self):
        for sign in ("\r", "\x0b", "\x0c", "\x1c", "\x85", "\u2028"):
            self.assertEqual(where(BadRow, letter_of, text_of(*HEAD, *BODY) + sign), (6, 6))
        self.assertEqual(where(BadRow, letter_of, "\r\n".join([*HEAD, *BODY])), (1, 10))

    def test_rows_of_sixty_signs_and_one_more(self):
        for rows in ([*HEAD, "Body: plain", ""], [*HEAD, "Body: sixteens", ""]):
            self.assertEqual(letter_of(text_of(*rows, "x" * 60)).row, [120] * 60)
            self.assertEqual(where(BadRow, letter_of, text_of(*rows, "x" * 61)), (6, 61))
        self.assertTrue(letter_of(text_of(*HEAD, "X: " + "y" * 57, *BODY)))
        self.assertEqual(where(BadRow, letter_of, text_of(*HEAD, "X: " + "y" * 58, *BODY)), (4, 61))
        self.assertEqual(where(BadRow, letter_of, text_of(*HEAD, *BODY, "y" * 61 + "%")), (7, 61))
        self.assertEqual(where(BadRow, letter_of, text_of(*HEAD, *BODY, "y" * 60 + "%", "%")), (7, 61))

    def test_wrong_signs_are_told_ahead_of_all_else(self):
        for rows in (["x"], [""], ["Id: x"], ["Id: x", "Body: what"], ["Body: what", ""], [*BODY, " "], [*HEAD, "", ""]):
            self.assertEqual(where(BadRow, letter_of, text_of(*rows, "a%")), (len(rows) + 1, 2))
            self.assertEqual(where(BadRow, letter_of, text_of(*rows, "a" * 62)), (len(rows) + 1, 61))

    def test_wrong_pieces_are_told_as_of_rows(self):
        self.assertEqual(where(BadRow, letter_of, text_of(*HEAD, "x")), (4, 2))
        self.assertEqual(where(BadRow, letter_of, text_of(*HEAD)), (4, 1))
        self.assertEqual(where(BadRow, letter_of, text_of(*HEAD, "Body: plain")), (5, 1))
        self.assertEqual(where(BadRow, letter_of, text_of(*HEAD, "Body: plain", "")), (6, 1))
        self.assertEqual(where(BadHeader, letter_of, text_of(ID, "From: <Ann>", DATE, *BODY)), (2, 2))
        self.assertEqual(where(BadBody, letter_of, text_of(*HEAD, "Body: what", "", "x")), (4, 1))
        self.assertEqual(where(BadBody, letter_of, text_of(*HEAD, *BODY, "x ")), (7, 3))

    def test_what_is_no_letter(self):
        self.refused(*BODY)
        for at in range(3):
            self.refused(*HEAD[:at], *HEAD[at + 1:], *BODY)
            self.refused(*HEAD, HEAD[at], *BODY)
        for name, (row, _) in PARTS.items():
            with self.subTest(name=name):
                self.refused(*HEAD, row, row, *BODY)
        self.refused("Body: pieces b", "", "--b", *HEAD, *BODY, "--b--")

    def refused(self, *rows):
        self.assertEqual(where(BadBody, letter_of, text_of(*rows)), (1, 1))

    def test_wrong_pieces_are_told_ahead_of_what_is_no_letter(self):
        self.assertEqual(where(BadHeader, letter_of, text_of("Id: x", *BODY)), (1, 1))
        self.assertEqual(where(BadBody, letter_of, text_of(*BODY, "x ")), (4, 3))
        self.assertEqual(where(BadRow, letter_of, text_of(ID, ID, *BODY[:2])), (5, 1))

    def test_headers_that_may_come_again(self):
        rows = ["To: <a@b>", "To: <c@d>", "Copy: <e@f>", "Copy: <e@f>", "About: x", "About: y", "X: 1", "X: 2"]
        self.assertEqual(letter_text(letter_of(text_of(*HEAD, *rows, *BODY))), text_of(*HEAD, *rows, *BODY))

    def test_headers_that_may_stand_once(self):
        rows = [row for row, _ in MORE.values()]
        self.assertEqual(letter_text(letter_of(text_of(*rows, *HEAD, *BODY))), text_of(*rows, *HEAD, *BODY))

    def test_a_long_letter(self):
        rows = ["x" * 59] * 990
        text = text_of(*HEAD, "Body: plain", "", *rows)
        self.assertEqual(letter_text(letter_of(text)), text)
        pieces = ["Body: pieces b0", ""] + ["--b0", "Body: plain", "", *["y" * 50] * 100] * 8 + ["--b0--"]
        text = text_of(*HEAD, *pieces)
        self.assertEqual(letter_text(letter_of(text)), text)


class Asked(unittest.TestCase):
    def setUp(self):
        self.rows = ["To: <a@b>, t: <c@d>;", "X: 1", *HEAD, "Marks: a, b", "x: 2", "About: Hi", "To: <e@f>", "About: =?SGk=?=",
                     "Refers: <q@h> <r@h>", *BODY]
        self.letter = letter_of(text_of(*self.rows))

    def test_said(self):
        self.assertEqual(said(self.letter, "to"), [[("one", "", "a@b"), ("group", "t", [("one", "", "c@d")])], [("one", "", "e@f")]])
        self.assertEqual(said(self.letter, "x"), ["1", "2"])
        self.assertEqual(said(self.letter, "id"), [["l@h"]])
        self.assertEqual(said(self.letter, "from"), [[("one", "Ann", "ann@h")]])
        self.assertEqual(said(self.letter, "date"), [(1067812800, 90)])
        self.assertEqual(said(self.letter, "marks"), [["a", "b"]])
        self.assertEqual(said(self.letter, "refers"), [["q@h", "r@h"]])
        self.assertEqual(said(self.letter, "about"), [[72, 105], [72, 105]])

    def test_nothing_is_said_of_other_names(self):
        for name in ("copy", "answers", "body", "", "X", "to "):
            self.assertEqual(said(self.letter, name), [])

    def test_said_of_a_piece(self):
        self.assertEqual(said(Piece([About("about", [1]), Header("x", "y")], []), "about"), [[1]])
        self.assertEqual(said(Piece([], []), "id"), [])

    def test_of_a_letter(self):
        self.assertEqual(id_of(self.letter), "l@h")
        self.assertEqual(sender_of(self.letter), "ann@h")
        self.assertEqual(minute_of(self.letter), 1067812800)

    def test_what_is_told_may_be_changed(self):
        for name in ("to", "x", "id", "from", "date", "marks", "refers", "about"):
            before = copy.deepcopy(said(self.letter, name))
            told = said(self.letter, name)
            for inner in told:
                if isinstance(inner, list):
                    for one in inner:
                        if isinstance(one, tuple) and isinstance(one[2], list):
                            one[2].clear()
                    inner.append("more")
            told.clear()
            self.assertEqual(said(self.letter, name), before)
        self.assertEqual((id_of(self.letter), sender_of(self.letter), minute_of(self.letter)), ("l@h", "ann@h", 1067812800))


if __name__ == "__main__":
    unittest.main()
