"""letterhouse/rules.py: rules and how they are read (points 1, 2 and 15)."""

import itertools
import re
import sys
import unittest

from letterhouse.errors import BadRule, BadTime
from letterhouse.rules import rules_of, rules_text
from letterhouse.times import time_of
from things import NO_SIGNS, NO_TEXTS, SIGNS, where

TIME = "2031-04-05 Sat 17:30 +0130"
# A letter for each word that is tried out; rows of these are told by what stands in them.
WORDS = {"i": "if", "n": "not", "(": "(", ")": ")", "a": "always", "m": "marked", "f": "from", "@": "a@b", "&": "and",
         "|": "or", "t": "then", "M": "move", "S": "stop", ",": "x,", ";": "stop,", "-": ""}
NAMES = "inamf&|tMS"
# One with facts and deeds of all sorts, and a text of as many such rows as are often read again and again.
LONG_ROW = ("if not not from abcdefgh1@abc.a and about abcdefghijk or ( marked abcdefghij and to abcdefgh1@abc.a or before "
            "2016-03-07 Mon 12:30 +0100 ) and not not not not ( always or not ( to abcdefgh1@abc.a ) ) then copy abcdefghijkl, "
            "mark abcdefghijk, unmark abcdef, copy in")
MANY = 32
MANY_ROWS = "\n".join([LONG_ROW] * MANY)


def facts(brackets):
    """What facts look like that stand in so many brackets."""
    within = f"|\\({facts(brackets + 1)}\\)" if brackets < 4 else ""
    fact = f"n{{0,4}}(a|m[{NAMES}]|f@{within})"
    return f"{fact}([&|]{fact})*"


GOOD = re.compile(f"i{facts(0)}t(M[,;]|;)*(M[{NAMES}]|S)")
ENDS = ["iatS"] + [fact + ")" * many + rest for fact in ("", "a", "x", "i", "@") for many in range(5) for rest in ("", "tS", "S")]


def is_beginning(some):
    """Whether words are a beginning of a rule, told otherwise than the program tells it."""
    return any(GOOD.fullmatch(some + end) for end in ENDS)


def row_of(some):
    return " ".join(WORDS[letter] for letter in some)


class Good(unittest.TestCase):
    def good(self, *rows):
        for row in rows:
            with self.subTest(row=row):
                rules = rules_of(row)
                self.assertIs(type(rules), list)
                self.assertEqual(len(rules), 1)
                self.assertEqual(rules_text(rules), row)

    def test_each_fact(self):
        longest = "a" * 20 + "@" + ".".join(["b" * 10] * 3)
        for fact in ("always", "from a@b", "to a-1_@b.c2.d", "about day", "marked new", f"before {TIME}", f"from {longest}"):
            self.good(f"if {fact} then stop")

    def test_each_deed(self):
        for deed in ("move x", "copy x", "mark x", "unmark x", "refuse", "stop"):
            self.good(f"if always then {deed}", f"if always then {deed}, {deed}, {deed}")
        self.good("if always then move a, copy b, mark c, unmark d, refuse, stop, move a")

    def test_facts_in_all_ways(self):
        self.good("if always and always then stop", "if always or always then stop", "if not always then stop",
                  "if always or always and always or always then stop", "if ( always ) then stop",
                  "if not ( always or not always ) and always then stop", "if not not not not always then stop",
                  "if ( ( always ) or ( always ) ) and ( always ) then stop",
                  "if not not not not ( not not not not always ) and not not not not always then stop")

    def test_four_brackets_within_one_another_and_many_beside(self):
        self.good("if ( ( ( ( always ) ) ) ) then stop", "if ( ( ( ( always ) and ( always ) ) ) or ( ( always ) ) ) then stop",
                  "if " + " and ".join(["( ( ( ( always ) ) ) )"] * 6) + " then stop",
                  "if not ( not ( not ( not ( not always ) ) ) ) then stop")

    def test_names_may_be_any(self):
        for name in ("if", "then", "and", "or", "not", "always", "from", "to", "about", "marked", "before", "move", "copy", "mark",
                     "unmark", "refuse", "stop", "in", "a", "x" * 12):
            self.good(f"if about {name} then stop", f"if marked {name} and not about {name} then stop",
                      f"if always then move {name}", f"if always then mark {name}, unmark {name}, copy {name}, move {name}")

    def test_times(self):
        for time in (TIME, "0001-01-01 Mon 00:00 +1400", "9999-12-31 Fri 23:59 -1400", "2024-02-29 Thu 00:00 -0001"):
            self.good(f"if before {time} then stop", f"if ( before {time} ) or before {time} and always then stop")

    def test_long_rows(self):
        self.good("if " + " or ".join(["always"] * 5000) + " then stop", "if always then " + ", ".join(["mark abc"] * 4000))

    def test_several_rules(self):
        rules = rules_of("if always then stop\nif from a@b then move x\nif always then stop")
        self.assertEqual(len(rules), 3)
        self.assertEqual(rules_text(rules), "if always then stop\nif from a@b then move x\nif always then stop")
        self.assertEqual(rules_text(rules[1:2]), "if from a@b then move x")
        self.assertEqual(rules_text(rules[::-1]), "if always then stop\nif from a@b then move x\nif always then stop")
        self.assertEqual(rules_text([rules[1], rules[0]]), "if from a@b then move x\nif always then stop")

    def test_the_empty_text_tells_no_rules(self):
        self.assertEqual(rules_of(""), [])
        self.assertEqual(rules_text([]), "")

    def test_rows_that_say_nothing(self):
        for row in ("", "#", "# if always then stop", "#if", "##", "# " + SIGNS, *[f"#{sign}" for sign in NO_SIGNS if sign != "\n"],
                    "#" * 5000):
            with self.subTest(row=row):
                self.assertEqual(rules_of(row), [])
                self.assertEqual(rules_of(f"{row}\n{row}"), [])
                rules = rules_of(f"{row}\nif always then stop\n{row}\n{row}\nif always then refuse\n{row}")
                self.assertEqual(rules_text(rules), "if always then stop\nif always then refuse")


class Refused(unittest.TestCase):
    def places(self, *pairs):
        for row, place in pairs:
            self.place(row, place)

    def place(self, row, place):
        """Refused alone, and behind other rows."""
        with self.subTest(row=row):
            self.assertEqual(where(BadRule, rules_of, row), (1, place))
            self.assertEqual(where(BadRule, rules_of, f"if always then stop\n\n# %\n{row}\nx"), (4, place))

    def word(self, *rows):
        """A wrong word stands between >> and <<."""
        for row in rows:
            self.place(row.replace(">>", "").replace("<<", ""), row.index(">>") + 1)

    def test_what_is_no_text(self):
        for thing in NO_TEXTS:
            self.assertEqual(where(BadRule, rules_of, thing), (1, 1))

    def test_the_first_wrong_row_is_told(self):
        self.assertEqual(where(BadRule, rules_of, "if always then stop\nif x\nx"), (2, 4))
        self.assertEqual(where(BadRule, rules_of, "\n\nx"), (3, 1))

    def test_no_rule(self):
        self.word(">>x<<", ">>IF<< always then stop", ">>If<<", ">>always<< then stop", ">><< ", ">><<  ", ">><< if always then stop",
                  ">>then<< stop", ">>if,<< always", ">>i<<", ">>iff<< always", ">>%<<", ">>\t<<", ">>if\talways<<", ">><< #")

    def test_a_word_more_is_wanted(self):
        for row in ("if", "if not", "if not not not not", "if (", "if ( ( ( (", "if always", "if ( always", "if ( always )",
                    "if always and", "if always or", "if always and not", "if from", "if to", "if about", "if marked", "if before",
                    "if before 2031-04-05", "if before 2031-04-05 Sat", "if before 2031-04-05 Sat 17:30", f"if before {TIME}",
                    "if from a@b", "if about x", "if always then", "if always then move", "if always then stop,",
                    "if always then move x,", "if always then stop, refuse,", "if always then stop, copy"):
            self.place(row, len(row) + 1)

    def test_an_empty_word_begins_where_the_next_blank_or_the_end_stands(self):
        self.word("if >><< always then stop", "if always >><< then stop", "if always then >><< stop", "if always then stop, >><< stop",
                  "if >><<", "if always then stop >><<", "if always then stop, >><<", "if from >><< a@b then stop", "if not >><<  x",
                  "if always then move >><< x", "if before >><< 2031-04-05", "if before 2031-04-05 >><< Sat",
                  "if before 2031-04-05 Sat 17:30 >><<", "if always then stop >><<  ")

    def test_wrong_facts(self):
        self.word("if >>x<< then stop", "if >>then<< stop", "if >>and<< always", "if >>or<< always", "if >>)<< then", "if >>alway<<",
                  "if >>always,<< then stop", "if >>Always<< then", "if >>(always)<< then stop", "if >>not,<< always", "if >>a@b<<",
                  "if not >>then<<", "if always and >>then<< stop", "if always or >>and<<", "if always and >>or<< always",
                  "if ( >>)<< then stop", "if ( >>then<<", "if always and >>)<<", "if >>stop<<", "if >>move<< x", "if >>unmarked<< x",
                  "if >>if<< always", "if not >>and<<", "if >>()<<", "if >>((<< always", "if >>always%<<")

    def test_wrong_words_behind_a_fact(self):
        self.word("if always >>always<<", "if always >>not<< always", "if always >>(<< always )", "if always >>stop<<",
                  "if always >>,<< always", "if always >>)<< then", "if always >>And<< always", "if always >>thens<< stop",
                  "if ( always >>then<< stop", "if ( always ) >>)<< then", "if ( always >>always<< )", "if ( always ) >>always<<",
                  "if ( ( always ) >>then<< stop", "if from a@b >>c@d<<", "if about x >>y<<", "if ( always >>),<< then")

    def test_wrong_addresses(self):
        for word in ("from", "to"):
            self.word(*[f"if {word} >>{address}<< then stop" for address in (
                "<a@b>", "a", "a@", "@b", "A@b", "a@B", "a@b.c.d.e", "a@b,", "a" * 21 + "@b", "a@" + "b" * 11, "a@b@c", "a.b@c",
                "then", "a@b.", "a@b%")])

    def test_wrong_names(self):
        for word in ("about", "marked"):
            self.word(*[f"if {word} >>{name}<< then stop" for name in (
                "A", "x1", "x" * 13, "a-b", "x,", "(", "a@b", "x%", "\xe4", "aB")])
        for word in ("move", "copy", "mark", "unmark"):
            self.word(*[f"if always then {word} >>{name}<<" for name in (
                "A", "x1", "x" * 13, "a-b", "x,,", ",", "x,y", ",x", "x;", "x" * 13 + ",", "x.", "X,", "x%", "x%,")])

    def test_four_nots_and_one_more(self):
        self.word("if not not not not >>not<< always then stop", "if always and not not not not >>not<< always then stop",
                  "if ( not not not not >>not<< always )", "if not ( not not not not >>not<< x")

    def test_four_brackets_and_one_more(self):
        self.word("if ( ( ( ( >>(<< always ) ) ) ) ) then stop", "if ( always and ( ( ( not >>(<< x",
                  "if ( ( ( ( always ) or ( >>(<< always", "if not ( not ( not ( not ( not >>(<< x")

    def test_wrong_deeds(self):
        self.word("if always then >>x<<", "if always then >>move,<< x", "if always then >>Stop<<", "if always then >>if<< always",
                  "if always then >>stop;<<", "if always then >>stop,,<< stop", "if always then >>,<<", "if always then >>then<<",
                  "if always then stop >>stop<<", "if always then stop >>,<< stop", "if always then move x >>move<< y",
                  "if always then move x >>y<<", "if always then stop, >>x<<", "if always then move x, >>x<<",
                  "if always then move x, >>and<< stop", "if always then stop >>and<< stop", "if always then refuse >>x,<<",
                  "if always then move x >>,<<", "if always then >>stop,refuse<<", "if always then >>marked<< x",
                  "if always then >>refuse%<<", "if always then >>#<<")

    def test_wrong_times(self):
        day, name, clock, ahead = TIME.split()
        for wrong in ("2031-04", "2031-04-31", "2031-04-5", "2031-04-05x", "0000-01-01", "x", "2031-04-05,", "(", "then", "2031-13-01",
                      "1900-02-29"):
            self.word(f"if before >>{wrong}<< {name} {clock} {ahead} then stop", f"if before >>{wrong}<<")
        for wrong in ("Sun", "sat", "Sa", "Satu", "x", "17:30", "Sat,"):
            self.word(f"if before {day} >>{wrong}<< {clock} {ahead} then stop", f"if before {day} >>{wrong}<<")
        for wrong in ("17:3", "24:00", "17:60", "17:300", "1730", "x", "+0130", "17"):
            self.word(f"if before {day} {name} >>{wrong}<< {ahead} then stop", f"if before {day} {name} >>{wrong}<<")
        for wrong in ("0130", "+013", "+01300", "-0000", "+1401", "+0160", "x", "+", "then", "+0130,"):
            self.word(f"if before {day} {name} {clock} >>{wrong}<< then stop", f"if before {day} {name} {clock} >>{wrong}<<")

    def test_words_of_times_are_whole_as_times_tell(self):
        for day in ("2031-04-05", "2024-02-29", "2023-02-29", "2023-02-28", "9999-12-31", "10000-01-01", "0001-01-01", "203-04-05"):
            for name, clock, ahead in itertools.product(("Sat", "Thu", "Mon", "Fri", "Tue"), ("00:00", "23:59", "23:5"),
                                                        ("+0000", "-0000", "-1400", "-14")):
                row = f"if before {day} {name} {clock} {ahead} then stop"
                try:
                    time_of(f"{day} {name} {clock} {ahead}")
                except BadTime:
                    self.assertEqual(where(BadRule, rules_of, row)[0], 1, row)
                else:
                    self.assertEqual(rules_text(rules_of(row)), row)

    def test_signs_beyond_all(self):
        for sign in NO_SIGNS:
            if sign != "\n":
                self.word(f">>{sign}<<", f"if >>always{sign}<<", f"if about >>x{sign}<<", f"if always then >>stop{sign}<<")

    def test_all_rows_of_some_words(self):
        self.goes_on("", 7)

    def test_rows_within_brackets_and_behind_nots(self):
        for head in ("i((((", "i(((", "innn", "innnn", "i((((a", "i((((a)", "i((((a)))", "i(nnn(nnnn", "iatM", "iat;M,", "if@&m"):
            self.goes_on(head, 3)

    def goes_on(self, some, many):
        """Look at all rows that begin with some words and have so many more, as far as they are beginnings."""
        for letter in WORDS if many else ():
            row = row_of(some + letter)
            if not is_beginning(some + letter):
                place = len(row) - len(WORDS[letter]) + 1
                self.assertEqual(where(BadRule, rules_of, row + " x"), (1, place), row)
                continue
            if GOOD.fullmatch(some + letter):
                self.assertEqual(rules_text(rules_of(row)), row)
            else:
                self.assertEqual(where(BadRule, rules_of, row), (1, len(row) + 1), row)
            self.goes_on(some + letter, many - 1)


class Many(unittest.TestCase):
    def test_many_long_rows_are_read(self):
        self.assertEqual(len(LONG_ROW), 264)
        rules = rules_of(MANY_ROWS)
        self.assertEqual(len(rules), MANY)
        self.assertEqual(rules_text(rules), MANY_ROWS)

    def test_a_wrong_word_in_each_of_many_long_rows(self):
        words = LONG_ROW.split(" ")
        for at in (0, words.index("from"), words.index("then"), words.index("copy")):
            wrong = " ".join(words[:at] + ["never"] + words[at + 1:])
            place = len("".join([word + " " for word in words[:at]])) + 1
            for number in range(MANY):
                rows = [LONG_ROW] * number + [wrong] + [LONG_ROW] * (MANY - number - 1)
                self.assertEqual(where(BadRule, rules_of, "\n".join(rows)), (number + 1, place))

    def test_each_wrong_word_of_a_long_row(self):
        words = LONG_ROW.split(" ")
        for at in range(len(words) + 1):
            place = len("".join([word + " " for word in words[:at]])) + 1
            for wrong in ("NEVER", "never@", ""):
                row = " ".join(words[:at] + [wrong] + words[at + 1:])
                self.assertEqual(where(BadRule, rules_of, row), (1, place), row)

    def test_reading_takes_few_calls(self):
        # Calls are counted, because how long they take hangs on the machine; sign by sign it would be some 1200 a row.
        self.assertLess(calls_of(rules_of, MANY_ROWS), 400 * MANY)


def calls_of(call, thing):
    """How many functions and methods are called while one of them is called with a thing."""
    counted = []
    before = sys.getprofile()
    sys.setprofile(lambda frame, event, told: counted.append(event) if event in ("call", "c_call") else None)
    try:
        call(thing)
    finally:
        sys.setprofile(before)
    return len(counted)


class Kept(unittest.TestCase):
    def test_told_rules_may_be_changed(self):
        text = "if always then stop\nif about x then refuse"
        rules = rules_of(text)
        other = rules_of(text)
        other.clear()
        self.assertEqual(rules_text(rules), text)
        self.assertEqual(rules_text(rules_of(text)), text)

    def test_rules_handed_in_stay(self):
        rules = rules_of("if always then stop\nif about x then refuse")
        before = list(rules)
        rules_text(rules)
        self.assertEqual(rules, before)


if __name__ == "__main__":
    unittest.main()
