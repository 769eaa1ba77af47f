"""letterhouse/rules.py: rules and what they do with letters (points 1, 15 and 16)."""

import copy
import itertools
import unittest

from letterhouse.headers import About
from letterhouse.letters import letter_text
from letterhouse.rules import fits, rules_of, rules_text, sorted_by
from letters_of import letter


class Facts(unittest.TestCase):
    def so(self, wanted, fact, *headers, marks=(), **more):
        with self.subTest(fact=fact, headers=headers, marks=marks):
            rules = rules_of(f"if {fact} then stop")
            self.assertIs(fits(rules, 0, letter("l@h", *headers, **more), list(marks)), wanted)
            rules = rules_of(f"if not {fact} then stop")
            self.assertIs(fits(rules, 0, letter("l@h", *headers, **more), list(marks)), not wanted)

    def yes(self, fact, *headers, **more):
        self.so(True, fact, *headers, **more)

    def no(self, fact, *headers, **more):
        self.so(False, fact, *headers, **more)

    def test_always(self):
        self.yes("always")

    def test_from(self):
        self.yes("from ann@h")
        self.yes("from a-1@b.c.d", sender="a-1@b.c.d")
        for address in ("ann@h2", "an@h", "l@h", "ann@h.h", "bob@h"):
            self.no(f"from {address}", "To: <bob@h>", "Copy: <bob@h>", "Answers: <bob@h>", "X: <bob@h>")

    def test_to(self):
        self.no("to bob@h")
        self.no("to ann@h")
        self.no("to bob@h", "To: <bo@h>", "Copy: <bob@h.h>", "Answers: <bob@h>", "Reply-To: <bob@h>", "To-Do: <bob@h>")
        self.yes("to bob@h", "To: <bob@h>")
        self.yes("to bob@h", "Copy: <bob@h>")
        self.yes("to bob@h", "To: <eve@h>, Bob <bob@h>")
        self.yes("to bob@h", "To: <eve@h>", "Copy: <eve@h>, <bob@h>")

    def test_to_in_groups(self):
        self.yes("to bob@h", "To: team: <bob@h>;")
        self.yes("to bob@h", "Copy: <eve@h>, team: <eve@h>, Bob <bob@h>;, x: ;")
        self.no("to bob@h", "To: team: ;")
        self.no("to bob@h", "To: bob: <eve@h>;")

    def test_to_in_all_headers_of_the_name(self):
        for name in ("To", "Copy"):
            self.yes("to bob@h", f"{name}: <eve@h>", f"{name}: <eve@h>", f"{name}: <bob@h>")
            self.yes("to bob@h", f"{name}: <bob@h>", f"{name}: <eve@h>")

    def test_about(self):
        self.no("about day")
        self.no("about day", "About:")
        self.yes("about day", "About: day")
        self.yes("about day", "About: A day out")
        self.yes("about day", "About: one DAY")
        self.yes("about day", "About: dAy?")

    def test_about_whole_words_alone(self):
        for about in ("days", "today", "da y", "d-ay", "d a y", "da", "yad", "dday", "d1ay"):
            self.no("about day", f"About: {about}")

    def test_about_is_parted_by_all_that_are_no_letters(self):
        for byte in range(256):
            row = [111, 110, 101, byte, 100, 97, 121, byte, 120]
            value = About("about", row).value()
            is_letter = 65 <= byte <= 90 or 97 <= byte <= 122
            with self.subTest(byte=byte):
                self.so(not is_letter, "about day", f"About: {value}")

    def test_about_in_bytes(self):
        self.yes("about day", "About: =?REFZCg==?=")
        self.no("about refzcg", "About: =?REFZCg==?=")
        self.yes("about refzcg", "About: =?REFZCg==?= x")

    def test_about_in_all_headers(self):
        self.yes("about day", "About: one", "About: day")
        self.yes("about day", "About: day", "About: one")
        self.no("about oneday", "About: one", "About: day")
        self.no("about day", "About: da", "About: y")

    def test_about_any_name(self):
        for name in ("then", "not", "and", "about", "a", "abcdefghijkl"):
            self.yes(f"about {name}", f"About: x {name.upper()}")
        self.no("about abcdefghijkl", "About: abcdefghijklm")

    def test_marked_asks_for_the_marks_by_then(self):
        self.no("marked new")
        self.no("marked new", "Marks: new")
        self.yes("marked new", marks=["new"])
        self.yes("marked new", marks=["a", "new", "z"])
        self.yes("marked new", "Marks: old", marks=["new"])
        self.no("marked new", marks=["newer", "ne", "old"])

    def test_before(self):
        for time, wanted in (("2031-04-04 Fri 09:00 +0000", False), ("2031-04-04 Fri 09:01 +0000", True),
                             ("2031-04-04 Fri 08:59 +0000", False), ("2031-04-04 Fri 10:30 +0130", False),
                             ("2031-04-04 Fri 10:31 +0130", True), ("2031-04-04 Fri 07:31 -0130", True),
                             ("2031-04-03 Thu 23:59 -1400", True), ("9999-12-31 Fri 23:59 +0000", True),
                             ("0001-01-01 Mon 00:00 +1400", False)):
            self.so(wanted, f"before {time}")
        self.yes("before 2031-04-04 Fri 09:00 +0000", date="2031-04-04 Fri 10:00 +0101")
        self.yes("before 0001-01-01 Mon 00:00 +0000", date="0001-01-01 Mon 00:00 +0001")

    def test_and_or_not_and_brackets(self):
        for marks in itertools.product((False, True), repeat=3):
            some = [name for name, is_there in zip("abc", marks) if is_there]
            a, b, c = marks
            for fact, wanted in (
                    ("marked a and marked b", a and b), ("marked a or marked b", a or b), ("not marked a", not a),
                    ("marked a or marked b and marked c", a or b and c), ("marked a and marked b or marked c", a and b or c),
                    ("( marked a or marked b ) and marked c", (a or b) and c),
                    ("marked a and ( marked b or marked c )", a and (b or c)),
                    ("not marked a and marked b", not a and b), ("not marked a or marked b", not a or b),
                    ("not ( marked a or marked b )", not (a or b)), ("not ( marked a and not marked b )", not (a and not b)),
                    ("not not marked a", a), ("not not not marked a", not a), ("not not not not marked a", a),
                    ("marked a and marked b and marked c", a and b and c), ("marked a or marked b or marked c", a or b or c),
                    ("marked a or marked b and not marked c or marked c", a or b and not c or c),
                    ("( ( ( ( marked a ) ) or marked b ) )", a or b), ("( not ( marked a ) and not marked b )", not a and not b)):
                rules = rules_of(f"if {fact} then stop")
                self.assertIs(fits(rules, 0, letter("l@h"), some), wanted, (fact, some))

    def test_the_number_of_the_rule(self):
        rules = rules_of("# none\nif marked a then stop\n\nif marked b then stop\nif marked c then stop\n")
        for number, mark in enumerate("abc"):
            for other in "abc":
                self.assertIs(fits(rules, number, letter("l@h"), [other]), mark == other)


class Done(unittest.TestCase):
    def done(self, deeds, folders, marks=(), refused=False, *headers):
        """What rules with these deeds do, one in a row or each in one."""
        self.ruled(f"if always then {deeds}", folders, marks, refused, *headers)
        self.ruled("\n".join(f"if always then {deed}" for deed in deeds.split(", ")), folders, marks, refused, *headers)

    def ruled(self, text, folders, marks=(), refused=False, *headers):
        with self.subTest(text=text):
            told = sorted_by(rules_of(text), letter("l@h", *headers))
            self.assertEqual(told, (list(folders), list(marks), refused))
            self.assertEqual([type(part) for part in told], [list, list, bool])
            self.assertIs(type(told), tuple)

    def test_no_rules(self):
        self.ruled("", ["in"])
        self.ruled("# nothing\n", ["in"])
        self.ruled("", ["in"], ["a", "b"], False, "Marks: a, b")

    def test_rules_that_do_not_fit(self):
        self.ruled("if not always then refuse\nif marked x then move y\nif to a@b then mark z", ["in"])

    def test_move(self):
        self.done("move x", ["x"])
        self.done("move x, move y", ["y"])
        self.done("copy x, copy y, move z", ["z"])
        self.done("move x, move in", ["in"])
        self.done("move in", ["in"])

    def test_copy(self):
        self.done("copy x", ["in", "x"])
        self.done("copy a", ["a", "in"])
        self.done("copy x, copy x, copy in", ["in", "x"])
        self.done("copy z, copy y, copy x", ["in", "x", "y", "z"])
        self.done("move x, copy b, copy a", ["a", "b", "x"])

    def test_mark_and_unmark(self):
        self.done("mark x", ["in"], ["x"])
        self.done("mark x, mark a, mark x", ["in"], ["a", "x"])
        self.done("mark x, unmark x", ["in"])
        self.done("unmark x, mark x", ["in"], ["x"])
        self.done("unmark x", ["in"])
        self.done("mark c", ["in"], ["a", "b", "c"], False, "Marks: a, b")
        self.done("unmark a", ["in"], ["b"], False, "Marks: a, b")
        self.done("mark a", ["in"], ["a", "b"], False, "Marks: a, b")
        self.done("mark x, unmark x, unmark x", ["in"])

    def test_more_marks_than_a_header_tells(self):
        marks = list("abcdefghijklmno")
        self.done(", ".join(f"mark {mark}" for mark in marks), ["in"], marks)

    def test_refuse(self):
        self.done("refuse", [], [], True)
        self.done("copy x, mark b, mark a, refuse, mark c, unmark a, move y", [], ["a", "b"], True)
        self.done("refuse, stop", [], [], True)
        self.done("refuse", [], ["a", "b"], True, "Marks: a, b")

    def test_stop(self):
        self.done("stop", ["in"])
        self.done("copy x, mark a, stop, mark b, move y, refuse", ["in", "x"], ["a"])
        self.done("move x, stop, refuse", ["x"])

    def test_rules_are_done_one_behind_the_other(self):
        self.ruled("if always then move x\nif always then copy a\nif not always then stop\nif always then mark m", ["a", "x"], ["m"])

    def test_marks_are_those_by_then(self):
        self.ruled("if marked a then move x\nif always then mark a\nif marked a then copy y", ["in", "y"], ["a"])
        self.ruled("if marked a then unmark a, mark b\nif marked a then move x\nif marked b then move y", ["y"], ["b"], False, "Marks: a")
        self.ruled("if not marked a then mark a\nif not marked a then refuse\nif marked a then stop\nif always then refuse", ["in"], ["a"])

    def test_facts_are_looked_at_ahead_of_the_deeds_of_the_rule(self):
        self.ruled("if marked a then unmark a, copy x, mark b, copy y", ["in", "x", "y"], ["b"], False, "Marks: a")

    def test_a_rule_with_all(self):
        text = ("if from eve@h or about offer then refuse\n"
                "if to team@h and not before 2031-04-04 Fri 00:00 +0000 then move team, mark new\n"
                "if marked new or marked urgent then copy todo, stop\n"
                "if always then mark old")
        self.ruled(text, ["team", "todo"], ["new"], False, "To: t: <team@h>;")
        self.ruled(text, ["in"], ["old"], False, "About: day")
        self.ruled(text, ["in", "todo"], ["urgent"], False, "Marks: urgent")
        self.ruled(text, [], [], True, "About: An OFFER!", "To: <team@h>")

    def test_many_rules_and_many_words(self):
        rules = rules_of("\n".join(["if about zz or to z@z then refuse"] * 1500))
        words = ["About: " + " ".join("abc" for _ in range(12))] * 900
        self.assertEqual(sorted_by(rules, letter("l@h", *words)), (["in"], [], False))


class Kept(unittest.TestCase):
    def test_what_is_handed_in_stays(self):
        rules = rules_of("if marked a then mark b, move x, refuse\nif always then stop")
        some = letter("l@h", "Marks: a", "To: t: <b@h>;", "About: x")
        before, text, marks = copy.deepcopy(rules), letter_text(some), ["a", "z"]
        sorted_by(rules, some)
        fits(rules, 0, some, marks)
        self.assertEqual(rules, before)
        self.assertEqual(letter_text(some), text)
        self.assertEqual(marks, ["a", "z"])
        self.assertEqual(rules_text(rules), "if marked a then mark b, move x, refuse\nif always then stop")

    def test_what_is_told_may_be_changed(self):
        rules = rules_of("if always then mark b, move x")
        some = letter("l@h", "Marks: a")
        folders, marks, _ = sorted_by(rules, some)
        folders.append("more")
        marks.clear()
        self.assertEqual(sorted_by(rules, some), (["x"], ["a", "b"], False))


if __name__ == "__main__":
    unittest.main()
