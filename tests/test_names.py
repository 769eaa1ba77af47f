"""letterhouse/rows.py: is_name, is_header_name, is_value (points 2 and 3)."""

import unittest

from letterhouse.rows import is_header_name, is_name, is_value
from things import NO_SIGNS, NO_TEXTS, SIGNS

SMALL = "abcdefghijklmnopqrstuvwxyz"


class Asked(unittest.TestCase):
    def yes(self, ask, things):
        for thing in things:
            with self.subTest(thing=thing):
                self.assertIs(ask(thing), True)

    def no(self, ask, things):
        for thing in things:
            with self.subTest(thing=thing):
                self.assertIs(ask(thing), False)


class Names(Asked):
    def test_good_ones(self):
        self.yes(is_name, ("a", "z", "in", "inbox", "always", "abcdefghijkl", "body", *SMALL))

    def test_none_or_one_letter_too_many(self):
        self.no(is_name, ("", "abcdefghijklm", "a" * 60000))

    def test_signs_that_may_not_stand_there(self):
        self.no(is_name, [sign for sign in SIGNS if sign not in SMALL])
        self.no(is_name, [f"ab{sign}cd" for sign in SIGNS if sign not in SMALL])
        self.no(is_name, ("A", "inBox", "in box", " in", "in ", "in\n", "a-b", "in1", "1in"))

    def test_what_is_no_sign(self):
        self.no(is_name, [f"ab{sign}" for sign in NO_SIGNS])

    def test_no_texts(self):
        self.no(is_name, NO_TEXTS)
        self.no(is_name, (["a"], ("a",), b"a", 1))


class HeaderNames(Asked):
    def test_good_ones(self):
        self.yes(is_header_name, ("a", "from", "abcdefgh", "a-b", "a-b-c", "abcdefgh-ijklmnop-qrstuvwx", "body"))

    def test_one_letter_too_many(self):
        self.no(is_header_name, ("abcdefghi", "a-abcdefghi", "abcdefghi-a", "a-b-abcdefghi"))

    def test_one_word_too_many(self):
        self.no(is_header_name, ("a-b-c-d", "a-a-a-a-a"))

    def test_empty_words(self):
        self.no(is_header_name, ("", "-", "a-", "-a", "a--b", "a-b-", "-a-b", "--"))

    def test_signs_that_may_not_stand_there(self):
        self.no(is_header_name, [f"ab{sign}cd" for sign in SIGNS if sign not in SMALL + "-"])
        self.no(is_header_name, ("From", "fROM", "a b", " a", "a ", "a:", "a\n", "a_b", "a1"))

    def test_what_is_no_sign(self):
        self.no(is_header_name, [f"ab{sign}" for sign in NO_SIGNS])

    def test_no_texts(self):
        self.no(is_header_name, NO_TEXTS)
        self.no(is_header_name, (["a"], ("a", "b"), b"a-b"))


class Values(Asked):
    def test_good_ones(self):
        self.yes(is_value, ("", "a", "a b", "a b c", "!", "~", "-", ":", "a: b", "x" * 60000, "a " * 29999 + "a"))

    def test_each_sign_may_stand_there(self):
        self.yes(is_value, [f"a{sign}b" for sign in SIGNS])

    def test_blanks_that_may_not_stand_there(self):
        self.no(is_value, (" ", "  ", " a", "a ", "a  b", "a b  c", "a   b", "a b "))

    def test_what_is_no_sign(self):
        self.no(is_value, NO_SIGNS)
        self.no(is_value, [f"a{sign}b" for sign in NO_SIGNS])
        self.no(is_value, [f"ab{sign}" for sign in NO_SIGNS])

    def test_no_texts(self):
        self.no(is_value, NO_TEXTS)
        self.no(is_value, (["a"], ("a", "b"), b"a b"))


if __name__ == "__main__":
    unittest.main()
