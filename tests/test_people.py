"""letterhouse/people.py: people read and written (points 1, 2 and 9)."""

import copy
import re
import unittest

from letterhouse.errors import BadPeople
from letterhouse.people import is_address, people_of, people_text
from letterhouse.rows import is_value
from things import NO_SIGNS, NO_TEXTS, SIGNS, where

SMALL = "abcdefghijklmnopqrstuvwxyz"
FIGURES = "0123456789"
WORD = "[A-Za-z0-9]{1,12}"
QUOTED = r'"((?!  )([ !#$&-\[\]-~]|\\["\\])){1,30}"'
NAME = f"({WORD}( {WORD}){{0,3}}|{QUOTED})"
ADDRESS = r"[a-z0-9_-]{1,20}@[a-z0-9]{1,10}(\.[a-z0-9]{1,10}){0,2}"
ONE = f"({NAME} )?<{ADDRESS}>"
EITHER = f"({ONE}|{NAME}: ({ONE}(, {ONE}){{0,9}})?;)"
GOOD = re.compile(f"{EITHER}(, {EITHER}){{0,19}}")
# All that is wanted to make a text whole that is a beginning of one.
ENDS = [end + more for more in ("", ";") for end in (
    "", ">", "b>", "@b>", "a@b>", "<a@b>", " <a@b>", '" <a@b>', 'a" <a@b>', '"" <a@b>', " ")]


def is_beginning(text):
    """Whether text is a beginning of one that tells people, told otherwise than the program tells it."""
    return any(GOOD.fullmatch(text + end) for end in ENDS)


def one(address, name=""):
    return "one", name, address


def group(name, *ones):
    return "group", name, list(ones)


class Read(unittest.TestCase):
    def told(self, text, *people):
        with self.subTest(text=text):
            self.assertEqual(people_of(text), list(people))

    def test_a_one_without_a_called_name(self):
        self.told("<ann@house>", one("ann@house"))

    def test_a_one_with_a_called_name(self):
        self.told("Ann <ann@house>", one("ann@house", "Ann"))
        self.told("ann van der LEE <ann@house>", one("ann@house", "ann van der LEE"))
        self.told("7 a9 <ann@house>", one("ann@house", "7 a9"))

    def test_addresses(self):
        for address in ("a@b", "0@0", "-@a", "_@a", "a-b_c-9@b1.c2.d3", "a" * 20 + "@" + "b" * 10, "x@a.b", "x@1.2.3",
                        "-_-@" + ".".join(["z" * 10] * 3)):
            self.told(f"<{address}>", one(address))
        for sign in SMALL + FIGURES + "-_":
            self.told(f"<{sign}@b>", one(f"{sign}@b"))
        for sign in SMALL + FIGURES:
            self.told(f"<a@{sign}.b{sign}>", one(f"a@{sign}.b{sign}"))

    def test_addresses_alone(self):
        for address in ("a@b", "-_9@0.z.9", "a" * 20 + "@" + ".".join(["b" * 10] * 3)):
            self.assertIs(is_address(address), True, address)
            for at in range(len(address) + 1):
                for sign in SIGNS + "".join(NO_SIGNS):
                    for other in (address[:at] + sign + address[at:], address[:at] + sign + address[at + 1:]):
                        self.assertIs(is_address(other), re.fullmatch(ADDRESS, other) is not None, other)
        for other in ("", "@", "a", "a@", "@a", "a@b.", "a@.b", "a@b..c", "a@b.c.d.e", "a@b@c", "a.b@c", "<a@b>", "a" * 21 + "@b"):
            self.assertIs(is_address(other), False, other)

    def test_called_names_of_plain_words_at_their_sizes(self):
        self.told("A" * 12 + " <a@b>", one("a@b", "A" * 12))
        name = " ".join(["Abcdefghijk9"] * 4)
        self.told(name + " <a@b>", one("a@b", name))
        self.told(name + ": ;", group(name))
        for sign in SMALL + SMALL.upper() + FIGURES:
            self.told(f"{sign} <a@b>", one("a@b", sign))

    def test_called_names_in_quotes(self):
        self.told('"Ann, of the house" <a@b>', one("a@b", "Ann, of the house"))
        self.told('"a <x@y>" <a@b>', one("a@b", "a <x@y>"))
        self.told('"a: ;" <a@b>', one("a@b", "a: ;"))
        self.told('" " <a@b>', one("a@b", " "))
        self.told('" a b " <a@b>', one("a@b", " a b "))

    def test_called_names_of_plain_words_in_quotes(self):
        self.told('"Ann" <a@b>', one("a@b", "Ann"))
        self.told('"Ann Lee": ;', group("Ann Lee"))

    def test_quotes_and_backslashes_in_called_names(self):
        self.told('"\\"" <a@b>', one("a@b", '"'))
        self.told('"\\\\" <a@b>', one("a@b", "\\"))
        self.told('"a \\"b\\" \\\\c" <a@b>', one("a@b", 'a "b" \\c'))
        self.told('"\\\\\\"" <a@b>', one("a@b", '\\"'))
        self.told('"\\\\n" <a@b>', one("a@b", "\\n"))

    def test_quoted_names_at_their_sizes(self):
        for name in ("!", "!" * 29, "!" * 30, "a" * 30, "a " * 15, " a" * 15):
            self.told(f'"{name}" <a@b>', one("a@b", name))
        self.told('"' + '\\"' * 30 + '" <a@b>', one("a@b", '"' * 30))
        self.told('"' + "\\\\" * 30 + '" <a@b>', one("a@b", "\\" * 30))

    def test_each_sign_in_quotes(self):
        for sign in SIGNS:
            if sign not in '"\\':
                self.told(f'"a{sign}b" <a@b>', one("a@b", f"a{sign}b"))

    def test_groups(self):
        self.told("team: ;", group("team"))
        self.told("team: <a@b>;", group("team", one("a@b")))
        self.told("a b: <a@b>, Bob <c@d>;", group("a b", one("a@b"), one("c@d", "Bob")))
        self.told('"a:b": "c;d" <a@b>;', group("a:b", one("a@b", "c;d")))
        self.told("team: " + ", ".join(["<a@b>"] * 10) + ";", group("team", *[one("a@b")] * 10))

    def test_several_people_in_their_order(self):
        self.told("<z@a>, Bob <c@d>, team: ;, x: <y@a>, <b@a>;, <a@a>", one("z@a"), one("c@d", "Bob"), group("team"),
                  group("x", one("y@a"), one("b@a")), one("a@a"))
        self.told("<a@b>, <a@b>", one("a@b"), one("a@b"))

    def test_twenty_people(self):
        self.told(", ".join(["<a@b>"] * 20), *[one("a@b")] * 20)
        full = "x: " + ", ".join(["Z <a@b>"] * 10) + ";"
        self.told(", ".join([full] * 20), *[group("x", *[one("a@b", "Z")] * 10)] * 20)

    def test_kinds_of_what_is_told(self):
        people = people_of("<a@b>, x: <c@d>;")
        self.assertIs(type(people), list)
        self.assertEqual([type(told) for told in people], [tuple, tuple])
        self.assertIs(type(people[1][2]), list)
        self.assertIs(type(people[1][2][0]), tuple)


class Written(unittest.TestCase):
    def written(self, text, *people):
        with self.subTest(text=text):
            self.assertEqual(people_text(list(people)), text)
            self.assertEqual(people_of(text), list(people))
            self.assertTrue(is_value(text))

    def test_ones(self):
        self.written("<a@b>", one("a@b"))
        self.written("Ann <a@b>", one("a@b", "Ann"))
        self.written("Ann van der Lee <a@b>", one("a@b", "Ann van der Lee"))
        self.written("<a@b>, <c@d>", one("a@b"), one("c@d"))

    def test_groups(self):
        self.written("team: ;", group("team"))
        self.written("team: <a@b>;", group("team", one("a@b")))
        self.written("the team: <a@b>, Bob <c@d>;, <e@f>", group("the team", one("a@b"), one("c@d", "Bob")), one("e@f"))
        self.written('"a:b": "c;d" <a@b>;', group("a:b", one("a@b", "c;d")))

    def test_names_that_are_plain_words_stand_without_quotes(self):
        for name in ("a", "Z9", "a b c d", "x" * 12, " ".join(["x" * 12] * 4)):
            self.written(f"{name} <a@b>", one("a@b", name))
            self.written(f"{name}: ;", group(name))
        self.assertEqual(people_text(people_of('"Ann Lee" <a@b>, "x": "y" <a@b>;')), "Ann Lee <a@b>, x: y <a@b>;")

    def test_names_that_are_no_plain_words_stand_in_quotes(self):
        for name in ("a b c d e", "x" * 13, "a " + "x" * 13, " ", " a", "a ", "-", "a-b", "Ann.", "a, b", "<a@b>", "_",
                     "a_b", "@", ";"):
            self.written(f'"{name}" <a@b>', one("a@b", name))
            self.written(f'"{name}": ;', group(name))

    def test_quotes_and_backslashes_have_a_backslash_ahead(self):
        self.written('"\\"" <a@b>', one("a@b", '"'))
        self.written('"\\\\" <a@b>', one("a@b", "\\"))
        self.written('"a\\"b\\\\c": ;', group('a"b\\c'))
        self.written('"\\\\\\"\\\\" <a@b>', one("a@b", '\\"\\'))
        self.written('"' + "\\\\" * 30 + '" <a@b>', one("a@b", "\\" * 30))

    def test_each_sign(self):
        for sign in SIGNS:
            for name in (sign, f"a{sign}", f"{sign}a", f"a{sign}b"):
                self.assertEqual(people_of(people_text([one("a@b", name)])), [one("a@b", name)])

    def test_the_most_people(self):
        full = group("\\" * 30, *[one("a" * 20 + "@" + ".".join(["b" * 10] * 3), '"' * 30)] * 10)
        people = [full] * 20
        self.assertEqual(people_of(people_text(people)), people)


class Refused(unittest.TestCase):
    def places(self, *pairs):
        for text, place in pairs:
            with self.subTest(text=text):
                self.assertEqual(where(BadPeople, people_of, text), (1, place))

    def behind(self, *pairs):
        """Places of ones that are wrong: as they stand, behind others and in groups."""
        for head in ("", "<a@b>, ", "x: ;, ", "x: ", "x: <a@b>, "):
            self.places(*[(head + text, len(head) + place) for text, place in pairs])

    def test_what_is_no_text(self):
        for thing in NO_TEXTS:
            with self.subTest(thing=thing):
                self.assertEqual(where(BadPeople, people_of, thing), (1, 1))

    def test_the_empty_text(self):
        self.places(("", 1))

    def test_a_wrong_beginning(self):
        self.behind((" ", 1), (">", 1), ("@", 1), (",", 1), (":", 1), ("-", 1), ("_ <a@b>", 1), ("\\", 1), (".", 1))
        self.places((";", 1), (" <a@b>", 1), (": ;", 1), ("x: <a@b>, ;", 11))

    def test_a_wrong_local_word(self):
        self.behind(("<>", 2), ("<@b>", 2), ("<A@b>", 2), ("<a A@b>", 3), ("< a@b>", 2), ("<a.b@c>", 3), ("<a>", 3),
                    ("<" + "a" * 21 + "@b>", 22), ("<" + "a" * 60 + "@b>", 22), ("<a+b@c>", 3), ("<<a@b>", 2), ("<a", 3),
                    ("<", 2), ('<"a"@b>', 2), ("<aB@c>", 3))

    def test_wrong_house_words(self):
        self.behind(("<a@>", 4), ("<a@.b>", 4), ("<a@b.>", 6), ("<a@b..c>", 6), ("<a@b.c.d.e>", 9), ("<a@b-c>", 5),
                    ("<a@b_c>", 5), ("<a@B>", 4), ("<a@b@c>", 5), ("<a@" + "b" * 11 + ">", 14), ("<a@b c>", 5), ("<a@b", 5),
                    ("<a@b." + "c" * 11 + ">", 16), ("<a@b.c." + "d" * 11 + ">", 18), ("<a@", 4), ("<a@b.", 6),
                    ("<a@b.c.d", 9), ("<a@b ", 5), ("<a@b;", 5))

    def test_what_stands_behind_an_address(self):
        self.behind(("<a@b> ", 6), ("<a@b>x", 6), ("<a@b>>", 6), ("<a@b>,<c@d>", 7), ("<a@b>,  <c@d>", 8), ("<a@b>,", 7),
                    ("<a@b>, ", 8), ("<a@b>,,", 7), ("<a@b>: ;", 6), ("<a@b> <c@d>", 6))
        self.places(("<a@b>;", 6), ("x: <a@b>", 9))

    def test_wrong_plain_names(self):
        self.behind(("Ann", 4), ("Ann ", 5), ("Ann<a@b>", 4), ("Ann  <a@b>", 5), ("Ann-Lee <a@b>", 4), ("Ann. <a@b>", 4),
                    ("x" * 13 + " <a@b>", 13), ("a b c d e <a@b>", 9), ("a b c d  <a@b>", 9), ("a b c d", 8), ("a b c d ", 9),
                    ("a " + "x" * 13, 15), ("Ann, <a@b>", 4), ('Ann "Lee" <a@b>', 5), ("Ann_ <a@b>", 4), ("ann@b", 4),
                    ("Ann :", 5), ("a b c d :", 9), ("Ann >", 5), ("Ann <>", 6))

    def test_wrong_quoted_names(self):
        self.behind(('""', 2), ('"', 2), ('"a', 3), ('"a  b" <a@b>', 4), ('"  " <a@b>', 3), ('"a\\b" <a@b>', 4),
                    ('"\\', 3), ('"\\a', 3), ('"\\ ', 3), ('"a"', 4), ('"a"<a@b>', 4), ('"a"  <a@b>', 5), ('"a" "b" <a@b>', 5),
                    ('"a" b <a@b>', 5), ('"a""', 4), ('"a" ', 5), ('"' + "a" * 31, 32), ('"' + "a" * 31 + '" <a@b>', 32),
                    ('"' + "\\\\" * 31, 62), ('"' + "a" * 30, 32), ('"' + "a" * 30 + "\\", 32), ('"' + "a" * 30 + " ", 32),
                    ('"' + "a" * 29 + '\\"', 33), ('"' + "a" * 29 + "\\a", 32))

    def test_wrong_groups(self):
        self.places(("x:", 3), ("x: ", 4), ("x:;", 3), ("x:  ;", 4), ("x: ; ", 5), ("x: ;;", 5), ("x: ;,", 6), ("x: ;, ", 7),
                    ("x: <a@b>", 9), ("x: <a@b> ;", 9), ("x: <a@b>,;", 10), ("x: <a@b>, ;", 11), ("x::", 3),
                    ("x: y: ;", 5), ('x: "y": ;', 7), ("x: <a@b>, y: ;", 12), (": ;", 1), ('"": ;', 2), ("x: y", 5),
                    ("x: ,", 4), ('"x":', 5), ('"x":;', 5), ("a b c d e: ;", 9))

    def test_a_group_of_eleven(self):
        ten = "x: " + ", ".join(["<a@b>"] * 10)
        self.places((ten + ", <a@b>;", len(ten) + 1), (ten + ",", len(ten) + 1), (ten, len(ten) + 1))

    def test_twenty_one_people(self):
        for told in ("<a@b>", "x: ;", "x: <a@b>, <a@b>;"):
            twenty = ", ".join([told] * 20)
            self.places((twenty + ", <a@b>", len(twenty) + 1), (twenty + ",", len(twenty) + 1),
                        (twenty + " ", len(twenty) + 1), (twenty + ", " + told, len(twenty) + 1))

    def test_what_is_no_sign(self):
        for sign in NO_SIGNS:
            self.behind((sign, 1), (f"<{sign}", 2), (f"<a{sign}@b>", 3), (f"<a@b{sign}>", 5), (f"<a@b>{sign}", 6),
                        (f"a{sign}", 2), (f"a {sign}", 3), (f'"a{sign}', 3), (f'"\\{sign}', 3), (f'"a"{sign}', 4))
            self.places((f"x:{sign}", 3), (f"x: {sign}", 4), (f"x: ;{sign}", 5))

    def test_letters_and_figures_that_are_no_ascii_ones(self):
        self.behind(("\u0661", 1), ("a\u0661 <a@b>", 2), ("<\u0661@b>", 2), ("<a@\u0661>", 4), ("\xc4nn <a@b>", 1))

    def test_beginnings_and_one_sign_more(self):
        for head, many in (("", 6), ("a: <a@b>", 3), ("a: b <a@b>, ", 2), ('"a', 4), ('x: "a', 3), ("a b c d", 3),
                           ("<a@b.c", 4), ("a: ;", 3), ("<a@b>", 3), ("x" * 11, 3), ('"' + "x" * 28, 4),
                           ("<" + "a" * 19, 3), ("<a@" + "b" * 9, 3), (", ".join(["<a@b>"] * 19), 4),
                           ("a: " + ", ".join(["<a@b>"] * 9), 4)):
            self.goes_on(head, many)

    def goes_on(self, head, many):
        """Look at all texts that begin with head and have so many signs more, as far as they are beginnings."""
        for sign in "aA<>@\" \\:;,.-%" if many else "":
            text = head + sign
            if not is_beginning(text):
                self.assertEqual(where(BadPeople, people_of, text + "<a@b>"), (1, len(text)), text)
                continue
            if GOOD.fullmatch(text):
                self.assertEqual(people_of(people_text(people_of(text))), people_of(text))
            else:
                self.assertEqual(where(BadPeople, people_of, text), (1, len(text) + 1), text)
            self.goes_on(text, many - 1)


class Kept(unittest.TestCase):
    def test_lists_handed_in_stay(self):
        people = [one("a@b", 'x"'), group("t", one("c@d"), one("e@f", "G")), group("u")]
        before = copy.deepcopy(people)
        people_text(people)
        self.assertEqual(people, before)

    def test_told_lists_that_were_changed_are_told_again_as_before(self):
        text = "<a@b>, t: <c@d>, <e@f>;, u: ;"
        people = people_of(text)
        before = copy.deepcopy(people)
        people[1][2].clear()
        people[2][2].append("more")
        people.pop()
        self.assertEqual(people_of(text), before)

    def test_a_told_text_stands_when_people_are_changed(self):
        people = [group("t", one("c@d"))]
        text = people_text(people)
        people[0][2].append(one("e@f"))
        self.assertEqual(text, "t: <c@d>;")
        self.assertEqual(people_text(people), "t: <c@d>, <e@f>;")


if __name__ == "__main__":
    unittest.main()
