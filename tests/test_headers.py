"""letterhouse/headers.py: headers and what they say (points 1, 2 and 10)."""

import copy
import re
import unittest

from letterhouse.errors import BadHeader, BadName, BadValue
from letterhouse.headers import About, Header, Ids, Marks, People, When, header_of
from things import NO_SIGNS, NO_TEXTS, SIGNS, first_bad_place, refusal, some_bytes, where

ADDRESS = r"<[a-z0-9_-]{1,20}@[a-z0-9]{1,10}(\.[a-z0-9]{1,10}){0,2}>"
ID = re.compile(ADDRESS)
REFERS = re.compile(f"{ADDRESS}( {ADDRESS}){{0,29}}")
ID_ENDS = ("", ">", "a>", "@a>", "a@a>", "<a@a>")
ALL = ("from", "to", "copy", "date", "id", "answers", "refers", "about", "marks", "reply-to")
# A header of each kind: its class, its name, what it says, and how that is written.
GOOD = (
    (People, "from", [("one", "Ann", "ann@house")], "Ann <ann@house>"),
    (People, "to", [("one", "", "a@b"), ("group", "team", [("one", "", "c@d"), ("one", "E F", "e@f")])],
     "<a@b>, team: <c@d>, E F <e@f>;"),
    (People, "copy", [("group", "team", [])], "team: ;"),
    (When, "date", (1067812800, 90), "2031-04-05 Sat 17:30 +0130"),
    (When, "date", (-840, 840), "0001-01-01 Mon 00:00 +1400"),
    (Ids, "id", ["a-1@b.c"], "<a-1@b.c>"),
    (Ids, "answers", ["a@b"], "<a@b>"),
    (Ids, "refers", ["a@b"], "<a@b>"),
    (Ids, "refers", ["c@d", "a@b", "c@d"], "<c@d> <a@b> <c@d>"),
    (Ids, "refers", ["a@b"] * 30, " ".join(["<a@b>"] * 30)),
    (About, "about", [72, 105], "Hi"),
    (About, "about", [], ""),
    (About, "about", [72, 105, 10], "=?SGkK?="),
    (About, "about", [0] * 25, "=?" + "A" * 32 + "?= =?AA==?="),
    (Marks, "marks", ["new"], "new"),
    (Marks, "marks", ["a", "ab", "b", "body"], "a, ab, b, body"),
    (Marks, "marks", list("abcdefghij"), "a, b, c, d, e, f, g, h, i, j"),
    (Marks, "marks", ["a" * 11, "a" * 12, "b" * 12], f"{'a' * 11}, {'a' * 12}, {'b' * 12}"),
    (Header, "reply-to", "anything: at (all)", "anything: at (all)"),
    (Header, "x", "", ""),
    (Header, "body", "plain", "plain"),
    (Header, "subject", "=?SGkK?=", "=?SGkK?="),
)


class Read(unittest.TestCase):
    def test_each_kind(self):
        for kind, name, said, value in GOOD:
            with self.subTest(name=name, value=value):
                header = header_of(name, value)
                self.assertIs(type(header), kind)
                self.assertEqual(header.name, name)
                self.assertEqual(header.told(), said)
                self.assertIs(type(header.told()), type(said))
                self.assertEqual(header.value(), value)

    def test_values_that_are_written_otherwise_than_they_were_read(self):
        for name, value, written in (("from", '"Ann" <a@b>', "Ann <a@b>"), ("to", '"x": "Y Z" <a@b>;', "x: Y Z <a@b>;"),
                                     ("about", "=?SGk=?=", "Hi"), ("about", "=?SGk=?= =?SGkK?=", "=?SGlIaQo=?=")):
            with self.subTest(value=value):
                self.assertEqual(header_of(name, value).value(), written)

    def test_about_tells_any_value(self):
        for value in ("", "=?", "=?SGkK?= x", "=?SGk?=", "a" * 60, "=? ?="):
            with self.subTest(value=value):
                self.assertEqual(header_of("about", value).told(), [ord(sign) for sign in value])
        self.assertEqual(header_of("about", "=?SGkK?= =?SGkK?=").told(), [72, 105, 10] * 2)

    def test_all_other_names_have_any_value(self):
        for name in ("subject", "froms", "from-a", "a-from", "dat", "ids", "reply-to", "mark", "body", "x-marks"):
            for value in ("", "<", "a, a", "30", '"', "b, a", SIGNS.replace(" ", "")):
                with self.subTest(name=name, value=value):
                    header = header_of(name, value)
                    self.assertIs(type(header), Header)
                    self.assertEqual((header.name, header.told(), header.value()), (name, value, value))


class Made(unittest.TestCase):
    def test_each_kind(self):
        for kind, name, said, value in GOOD:
            with self.subTest(name=name, value=value):
                header = kind(name, said)
                self.assertEqual(header.name, name)
                self.assertEqual(header.told(), said)
                self.assertIs(type(header.told()), type(said))
                self.assertEqual(header.value(), value)

    def test_all_stand_under_header(self):
        for kind in (People, When, Ids, About, Marks):
            with self.subTest(kind=kind):
                self.assertEqual(kind.__bases__, (Header,))

    def test_each_method_stands_in_the_class_itself(self):
        for kind in (Header, People, When, Ids, About, Marks):
            for method in ("__init__", "value", "told"):
                self.assertIn(method, vars(kind), kind)

    def test_what_is_handed_in_is_neither_changed_nor_kept(self):
        for kind, name, said, value in GOOD:
            with self.subTest(name=name, value=value):
                given = copy.deepcopy(said)
                header = kind(name, given)
                self.spoil(header.told())
                self.assertEqual(given, said)
                self.spoil(given)
                self.assertEqual(header.told(), said)
                self.assertEqual(header.value(), value)

    def test_what_is_told_stays_and_is_told_again_as_before(self):
        for kind, name, said, value in GOOD:
            for header in (kind(name, copy.deepcopy(said)), header_of(name, value)):
                with self.subTest(name=name, value=value):
                    before = header.told()
                    self.spoil(header.told())
                    self.assertEqual(before, said)
                    self.assertEqual(header.told(), said)
                    self.assertEqual(header.value(), value)

    def spoil(self, said):
        """Change all lists in what a header says."""
        if isinstance(said, list):
            for told in said:
                if isinstance(told, tuple) and isinstance(told[2], list):
                    told[2].append("more")
            said.append("more")


class RefusedNames(unittest.TestCase):
    def test_what_is_no_name_of_a_header(self):
        for name in ("", "From", "FROM", "from ", "a_b", "a1", "a--b", "abcdefghi", "a-b-c-d", "fr\xf6m", "from:", *NO_TEXTS):
            with self.subTest(name=name):
                refusal(BadName, header_of, name, "<a@b>")

    def test_what_is_no_value(self):
        for value in (" ", " a", "a ", "a  b", "<a@b> ", *NO_SIGNS, *[f"a{sign}" for sign in NO_SIGNS], *NO_TEXTS):
            for name in ALL:
                with self.subTest(name=name, value=value):
                    refusal(BadValue, header_of, name, value)

    def test_a_wrong_name_is_told_ahead_of_a_wrong_value(self):
        for name in ("From", "", None, ["from"]):
            for value in (" ", None, "%", 7, "x"):
                refusal(BadName, header_of, name, value)

    def test_a_wrong_value_is_told_ahead_of_what_it_says(self):
        for value in ("x ", "<a@b>  ", "%", "<<%"):
            refusal(BadValue, header_of, "from", value)


class Refused(unittest.TestCase):
    def places(self, name, *pairs):
        for value, place in pairs:
            with self.subTest(name=name, value=value):
                self.assertEqual(where(BadHeader, header_of, name, value), (1, place))

    def test_empty_values(self):
        for name in ALL:
            if name not in ("about", "reply-to"):
                self.places(name, ("", 1))

    def test_from_is_just_one(self):
        self.places("from", ("<a@b>, <c@d>", 6), ("<a@b>,", 6), ("team: ;", 5), ("team: <a@b>;", 5), ("Ann", 4), ("<a@b", 5),
                    ("<a@b> x", 6), ('"a": ;', 4), ("Ann <", 6), ("Ann B", 6), ("@", 1), ('""', 2), ("a b c d e <a@b>", 9))

    def test_to_and_copy_are_people(self):
        for name in ("to", "copy"):
            self.places(name, ("<a@b>,", 7), ("<a@b>, x", 9), ("team:", 6), ("team: x", 8), ("-", 1),
                        ("<a@b>;", 6), (", ".join(["<a@b>"] * 21), 139), ("x: <a@b>, y: ;", 12))

    def test_date_is_a_time(self):
        self.places("date", ("2031-04-05 Sun", 13), ("2031-04-05 Sat 17:30", 21), ("2031-04-05 Sat 17:30 -0000", 26),
                    ("2031-04-31 Thu", 10), ("x", 1), ("2031-04-05 Sat 17:30 +01300", 27), ("0000", 4))

    def test_id_and_answers_are_one_address(self):
        for name in ("id", "answers"):
            self.places(name, ("a@b", 1), ("<a@b", 5), ("<a@b> <c@d>", 6), ("<a@b>,", 6), ("<a@b>x", 6), ("<a@b> x", 6),
                        ("<A@b>", 2), ("<a>", 3), ("<>", 2), ("Ann <a@b>", 1), ("<a@b.c.d.e>", 9), ('"', 1))
        self.tried("id", "<a@b>", ID.fullmatch)

    def test_refers_is_1_to_30_addresses(self):
        thirty = " ".join(["<a@b>"] * 30)
        self.places("refers", ("a@b", 1), ("<a@b>,", 6), ("<a@b>, <c@d>", 6), ("<a@b><c@d>", 6), ("<a@b> c@d", 7),
                    ("<a@b> <c@d", 11), ("<a@b> x", 7), (thirty + " <a@b>", 180), (thirty + " x", 180), (thirty + "x", 180),
                    (thirty[:-1], 179), (" ".join(["<a@b>"] * 60), 180))
        self.tried("refers", "<a@b> <c-9@d.e>", REFERS.fullmatch)

    def tried(self, name, value, is_good):
        """Look at what comes of a value where a sign is put in, put in another's place, or left out."""
        for at in range(len(value) + 1):
            for sign in ("", "<", ">", "@", "a", ".", "-", "A", ",", "<a@a>", "9" * 20):
                for rest in (value[at:], value[at + 1:], ""):
                    text = " ".join((value[:at] + sign + rest).split())
                    place = first_bad_place(text, is_good, ID_ENDS)
                    if place > 0:
                        self.places(name, (text, place))
                    else:
                        self.assertEqual(header_of(name, text).value(), text)

    def test_marks_are_names(self):
        self.places("marks", ("A", 1), ("1", 1), (",", 1), ("aB", 2), ("a1", 2), ("a-b", 2), ("a b", 2), ("a;", 2), ("a.", 2),
                    ("a" * 13, 13), ("a" * 60, 13), ("a,", 3), ("a,b", 3), ("a, B", 4), ("a, 7", 4), ("a, bC", 5),
                    ("a, b,", 6), ("a, b c", 5), ("a, " + "b" * 13, 16), ("a, " + "b" * 40, 16), ("a, b, ,", 7))

    def test_marks_are_rising_and_unlike(self):
        self.places("marks", ("b, a", 4), ("a, a", 4), ("b, ab", 4), ("ab, a", 5), ("ab, aa", 5), ("new, old, new", 11),
                    ("a, b, b, c", 7), ("b, a, a", 4), ("a, c, b", 7), ("b, " + "a" * 12, 4))

    def test_a_name_that_is_not_greater_is_told_ahead_of_what_stands_behind_its_letters(self):
        self.places("marks", ("b, aB", 4), ("b, a1", 4), ("b, a,", 4), ("b, a,c", 4), ("b, a c", 4), ("b, " + "a" * 13, 4),
                    ("b, " + "a" * 40, 4), ("ab, a", 5), ("ab, aB", 5), ("abc, ab7", 6), ("ab, ab", 5), ("ab, ab-", 5))

    def test_a_name_that_is_greater_is_wrong_behind_its_letters(self):
        self.places("marks", ("ab, acB", 7), ("ab, b7", 6), ("ab, abc-", 8), ("a, b" + "a" * 12, 16))

    def test_all_letters_of_a_name_count_as_far_as_they_go(self):
        self.places("marks", ("a" * 12 + ", " + "a" * 13, 27), ("a" * 12 + ", " + "a" * 12, 15))

    def test_ten_marks_and_one_more(self):
        ten = ", ".join("abcdefghij")
        self.places("marks", (ten + ", k", 29), (ten + ",", 29), (ten + ", a", 29), (ten + ", K", 29), (ten + " k", 29),
                    (ten + "j, k", 30))


class Bytes(unittest.TestCase):
    def test_about_there_and_back(self):
        for many in range(80):
            row = some_bytes(many)
            with self.subTest(many=many):
                header = About("about", row)
                self.assertEqual(header_of("about", header.value()).told(), row)


if __name__ == "__main__":
    unittest.main()
