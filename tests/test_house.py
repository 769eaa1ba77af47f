"""letterhouse/house.py: the house (points 1 and 17)."""

import itertools
import unittest

from letterhouse.errors import BadBody, BadHeader, BadName, BadRow, BadRule, NoFolder, NoLetter, Twice
from letterhouse.house import House
from letters_of import text_of
from things import NO_TEXTS, refusal, where

NO_NAMES = ("", "A", "in box", "x" * 13, "in\n", "a,", "a-b", "%", "1", *NO_TEXTS)
NO_ADDRESSES = ("", "b@h", "A@h", "a@h ", "a", "<a@h>", "%", *NO_TEXTS)
RULES = "if about spam then refuse\nif about work then move work, mark todo\nif to team@h then copy team"


def house_of(*texts, rules=""):
    house = House(rules)
    for text in texts:
        house.come(text)
    return house


def state(house):
    """All that a house tells."""
    names = house.names()
    addresses = sorted({address for name in names for address in house.folder(name)})
    return (names, [house.folder(name) for name in names], [house.threads(name) for name in names],
            [(address, house.folders(address), house.marks(address), house.text(address)) for address in addresses])


class Coming(unittest.TestCase):
    def test_a_house_of_no_letters(self):
        for house in (House(), House(""), House(RULES), House("# none\n")):
            self.assertEqual(house.names(), [])
            self.assertEqual(house.folder("in"), [])
            self.assertEqual(house.threads("in"), [])

    def test_a_letter_that_comes_is_sorted(self):
        house = House(RULES)
        self.assertEqual(house.come(text_of("a@h")), ["in"])
        self.assertEqual(house.come(text_of("b@h", "About: Work", "To: <team@h>")), ["team", "work"])
        self.assertEqual(house.come(text_of("c@h", "Copy: <team@h>", "Marks: x, y")), ["in", "team"])
        self.assertEqual(house.names(), ["in", "team", "work"])
        self.assertEqual([house.folder(name) for name in ("in", "team", "work", "spam")],
                         [["a@h", "c@h"], ["b@h", "c@h"], ["b@h"], []])
        self.assertEqual([house.folders(address) for address in ("a@h", "b@h", "c@h")],
                         [["in"], ["team", "work"], ["in", "team"]])
        self.assertEqual([house.marks(address) for address in ("a@h", "b@h", "c@h")], [[], ["todo"], ["x", "y"]])

    def test_a_letter_that_is_refused_is_not_kept(self):
        house = House(RULES)
        self.assertEqual(house.come(text_of("a@h", "About: spam")), [])
        self.assertEqual(house.names(), [])
        refusal(NoLetter, house.folders, "a@h")
        self.assertEqual(house.come(text_of("a@h", "About: spam")), [])
        self.assertEqual(house.come(text_of("a@h")), ["in"])
        self.assertEqual(house.folder("in"), ["a@h"])

    def test_what_is_no_letter(self):
        house = house_of(text_of("a@h"))
        before = state(house)
        for thing in NO_TEXTS:
            self.assertEqual(where(BadRow, house.come, thing), (1, 1))
        self.assertEqual(where(BadRow, house.come, "x%"), (1, 2))
        self.assertEqual(where(BadRow, house.come, text_of("b@h", "x")), (4, 2))
        self.assertEqual(where(BadHeader, house.come, text_of("B@h")), (1, 2))
        self.assertEqual(where(BadBody, house.come, text_of("b@h", "Id: <b@h>")), (1, 1))
        self.assertEqual(where(BadBody, house.come, text_of("b@h", body=("Body: x", ""))), (4, 1))
        self.assertEqual(state(house), before)

    def test_a_letter_of_an_address_that_is_there(self):
        house = house_of(text_of("a@h", "Marks: m"), rules=RULES)
        before = state(house)
        refusal(Twice, house.come, text_of("a@h"))
        refusal(Twice, house.come, text_of("a@h", "Marks: m"))
        refusal(Twice, house.come, text_of("a@h", "About: spam"))
        self.assertEqual(state(house), before)

    def test_a_wrong_letter_is_told_ahead_of_one_that_is_there(self):
        house = house_of(text_of("a@h"))
        self.assertEqual(where(BadBody, house.come, text_of("a@h", "Id: <a@h>")), (1, 1))
        self.assertEqual(where(BadRow, house.come, text_of("a@h") + "%"), (6, 2))

    def test_a_text_is_kept_as_it_is_written(self):
        house = House()
        house.come("id:<a@h>\nFROM: \"Ann\"\n <ann@h>\nDate:2031-04-04 Fri 09:00 +0000\nBODY:sixteens\n\n=48i")
        self.assertEqual(house.text("a@h"), "Id: <a@h>\nFrom: Ann <ann@h>\nDate: 2031-04-04 Fri 09:00 +0000\nBody: plain\n\nHi")

    def test_the_text_stays_whatever_marks_a_letter_is_given(self):
        house = house_of(text_of("a@h", "Marks: x"), rules="if always then mark y, unmark x")
        house.mark("a@h", "z")
        self.assertEqual(house.marks("a@h"), ["y", "z"])
        self.assertEqual(house.text("a@h"), text_of("a@h", "Marks: x"))

    def test_two_hundred_letters(self):
        house = House(RULES)
        for number in range(200):
            self.assertEqual(house.come(text_of(f"{number:03d}@h")), ["in"])
        self.assertEqual(house.folder("in"), [f"{number:03d}@h" for number in range(200)])


class Rules(unittest.TestCase):
    def test_wrong_rules(self):
        for thing in NO_TEXTS:
            self.assertEqual(where(BadRule, House, thing), (1, 1))
        self.assertEqual(where(BadRule, House, "\nif x"), (2, 4))

    def test_two_houses_have_nothing_in_common(self):
        one, other = House(), House()
        one.come(text_of("a@h"))
        self.assertEqual(other.names(), [])
        other.come(text_of("a@h"))
        other.mark("a@h", "m")
        self.assertEqual(one.marks("a@h"), [])


class Moved(unittest.TestCase):
    def setUp(self):
        self.house = house_of(text_of("a@h"), rules="if always then copy x")

    def test_move(self):
        self.assertIsNone(self.house.move("a@h", "in", "y"))
        self.assertEqual(self.house.folders("a@h"), ["x", "y"])
        self.assertIsNone(self.house.move("a@h", "x", "in"))
        self.assertEqual(self.house.folders("a@h"), ["in", "y"])
        self.assertEqual(self.house.names(), ["in", "y"])

    def test_move_to_where_it_is_already(self):
        self.assertIsNone(self.house.move("a@h", "in", "x"))
        self.assertEqual(self.house.folders("a@h"), ["x"])
        self.assertEqual(self.house.folder("x"), ["a@h"])
        self.assertIsNone(self.house.move("a@h", "x", "x"))
        self.assertEqual(self.house.folders("a@h"), ["x"])

    def test_drop(self):
        self.assertIsNone(self.house.drop("a@h", "in"))
        self.assertEqual(self.house.folders("a@h"), ["x"])
        self.assertEqual(self.house.names(), ["x"])

    def test_a_letter_in_no_folder_is_gone_and_may_come_again(self):
        self.house.mark("a@h", "m")
        self.house.drop("a@h", "x")
        self.assertIsNone(self.house.drop("a@h", "in"))
        for ask in (self.house.folders, self.house.marks, self.house.text):
            refusal(NoLetter, ask, "a@h")
        self.assertEqual(self.house.names(), [])
        self.assertEqual(self.house.come(text_of("a@h", "Marks: n")), ["in", "x"])
        self.assertEqual(self.house.marks("a@h"), ["n"])

    def refused(self, kind, call, *things):
        before = state(self.house)
        refusal(kind, call, *things)
        self.assertEqual(state(self.house), before)

    def test_no_letter(self):
        house = self.house
        for address in NO_ADDRESSES:
            for call, many in ((house.move, 2), (house.drop, 1), (house.mark, 1), (house.unmark, 1), (house.folders, 0),
                               (house.marks, 0), (house.text, 0)):
                self.refused(NoLetter, call, address, *["in"] * many)

    def test_no_name(self):
        house = self.house
        for name in NO_NAMES:
            self.refused(BadName, house.move, "a@h", name, "y")
            self.refused(BadName, house.move, "a@h", "in", name)
            self.refused(BadName, house.move, "a@h", name, name)
            for call in (house.drop, house.mark, house.unmark):
                self.refused(BadName, call, "a@h", name)
            for call in (house.folder, house.threads):
                self.refused(BadName, call, name)

    def test_no_folder(self):
        self.refused(NoFolder, self.house.move, "a@h", "y", "in")
        self.refused(NoFolder, self.house.move, "a@h", "y", "y")
        self.refused(NoFolder, self.house.drop, "a@h", "y")
        self.house.drop("a@h", "in")
        self.refused(NoFolder, self.house.move, "a@h", "in", "x")
        self.refused(NoFolder, self.house.drop, "a@h", "in")

    def test_no_letter_is_told_ahead_of_no_name_and_that_ahead_of_no_folder(self):
        for name in ("X", None, []):
            self.refused(NoLetter, self.house.move, "b@h", name, "y")
            self.refused(NoLetter, self.house.move, "b@h", "y", name)
            for call in (self.house.drop, self.house.mark, self.house.unmark):
                self.refused(NoLetter, call, "b@h", name)
            self.refused(BadName, self.house.move, "a@h", "y", name)
            self.refused(BadName, self.house.move, "a@h", name, "y")

    def test_mark_and_unmark(self):
        house = self.house
        self.assertIsNone(house.mark("a@h", "n"))
        self.assertIsNone(house.mark("a@h", "m"))
        self.assertIsNone(house.mark("a@h", "n"))
        self.assertEqual(house.marks("a@h"), ["m", "n"])
        self.assertIsNone(house.unmark("a@h", "n"))
        self.assertEqual(house.marks("a@h"), ["m"])
        self.assertIsNone(house.unmark("a@h", "n"))
        self.assertIsNone(house.unmark("a@h", "other"))
        self.assertEqual(house.marks("a@h"), ["m"])

    def test_other_letters_stay(self):
        house = house_of(text_of("a@h"), text_of("b@h"), rules="if always then copy x")
        house.move("a@h", "in", "y")
        house.drop("a@h", "x")
        house.mark("a@h", "m")
        self.assertEqual((house.folders("b@h"), house.marks("b@h")), (["in", "x"], []))
        house.drop("a@h", "y")
        self.assertEqual((house.folders("b@h"), house.marks("b@h")), (["in", "x"], []))


class Folders(unittest.TestCase):
    def test_letters_by_minutes_and_addresses(self):
        dates = {"a@h": "2031-04-05 Sat 10:00 +0000", "b@h": "2031-04-05 Sat 09:59 +0000", "c@h": "2031-04-05 Sat 11:00 +0100",
                 "d@h": "2031-04-05 Sat 10:00 +0100", "e@h": "2031-04-05 Sat 08:00 -0200", "f@h": "0001-01-01 Mon 00:00 +0200",
                 "g@h": "0001-01-01 Mon 00:00 +0000"}
        texts = [text_of(address, date=date) for address, date in dates.items()]
        for some in itertools.islice(itertools.permutations(texts), 0, 5040, 97):
            self.assertEqual(house_of(*some).folder("in"), ["f@h", "g@h", "d@h", "b@h", "a@h", "c@h", "e@h"])

    def test_minutes_are_numbers(self):
        house = house_of(text_of("a@h", date="0001-01-01 Mon 00:10 +0000"), text_of("b@h", date="0001-01-01 Mon 00:09 +0000"))
        self.assertEqual(house.folder("in"), ["b@h", "a@h"])

    def test_names_are_rising_and_unlike(self):
        house = house_of(text_of("a@h"), text_of("b@h"), rules="if always then copy z, copy a")
        self.assertEqual(house.names(), ["a", "in", "z"])
        house.drop("a@h", "a")
        self.assertEqual(house.names(), ["a", "in", "z"])
        house.drop("b@h", "a")
        self.assertEqual(house.names(), ["in", "z"])

    def test_threads(self):
        house = house_of(text_of("c@h", "Answers: <b@h>"), text_of("a@h"), text_of("b@h", "Answers: <a@h>"),
                         text_of("d@h", "Refers: <a@h> <q@h>", "Answers: <a@h>"))
        self.assertEqual(house.threads("in"), ["a@h", "  b@h", "    c@h", "q@h ?", "  d@h"])
        self.assertEqual(house.threads("x"), [])

    def test_threads_of_the_letters_in_a_folder(self):
        house = house_of(text_of("c@h", "Answers: <b@h>"), text_of("a@h"), text_of("b@h", "Answers: <a@h>"))
        house.move("b@h", "in", "x")
        self.assertEqual(house.threads("in"), ["a@h", "b@h ?", "  c@h"])
        self.assertEqual(house.threads("x"), ["a@h ?", "  b@h"])
        house.drop("b@h", "x")
        self.assertEqual(house.threads("in"), ["a@h", "b@h ?", "  c@h"])
        house.come(text_of("b@h"))
        self.assertEqual(house.threads("in"), ["a@h", "b@h", "  c@h"])

    def test_threads_of_rings(self):
        texts = [text_of("a@h", "Answers: <c@h>"), text_of("b@h", "Answers: <a@h>"), text_of("c@h", "Answers: <b@h>")]
        for some in itertools.permutations(texts):
            house = house_of(*some)
            self.assertEqual(house.threads("in"), ["a@h", "  b@h", "    c@h"])
            house.drop("a@h", "in")
            self.assertEqual(house.threads("in"), ["a@h ?", "  b@h", "    c@h"])


class Renewed(unittest.TestCase):
    def test_letters_are_sorted_anew(self):
        house = house_of(text_of("a@h"), text_of("b@h", "About: work"), rules=RULES)
        self.assertIsNone(house.renew("if about work then copy work\nif always then mark seen"))
        self.assertEqual([house.folders("a@h"), house.folders("b@h")], [["in"], ["in", "work"]])
        self.assertEqual([house.marks("a@h"), house.marks("b@h")], [["seen"], ["seen"]])
        self.assertEqual(house.come(text_of("c@h", "About: work spam")), ["in", "work"])

    def test_from_the_folder_in_and_the_own_marks_as_they_came(self):
        house = house_of(text_of("a@h", "Marks: m, n"), rules="if always then move x, unmark m, mark z")
        house.move("a@h", "x", "y")
        house.mark("a@h", "q")
        house.renew("if marked q or marked z or not marked m then refuse\nif marked m then copy mine")
        self.assertEqual((house.folders("a@h"), house.marks("a@h")), (["in", "mine"], ["m", "n"]))
        house.renew("")
        self.assertEqual((house.folders("a@h"), house.marks("a@h")), (["in"], ["m", "n"]))

    def test_those_refused_are_gone(self):
        house = house_of(text_of("a@h", "About: x"), text_of("b@h"), text_of("c@h", "About: x"))
        house.renew("if about x then refuse")
        self.assertEqual(house.folder("in"), ["b@h"])
        refusal(NoLetter, house.text, "a@h")
        self.assertEqual(house.come(text_of("a@h")), ["in"])
        house.renew("if always then refuse")
        self.assertEqual(house.names(), [])
        house.renew("")
        self.assertEqual(house.names(), [])
        self.assertEqual(house.come(text_of("c@h")), ["in"])

    def test_wrong_rules_change_nothing(self):
        house = house_of(text_of("a@h"), text_of("b@h", "About: work"), rules=RULES)
        house.move("a@h", "in", "x")
        house.mark("a@h", "m")
        before = state(house)
        for thing in NO_TEXTS:
            self.assertEqual(where(BadRule, house.renew, thing), (1, 1))
        self.assertEqual(where(BadRule, house.renew, "if always then refuse\nif always then"), (2, 15))
        self.assertEqual(state(house), before)
        self.assertEqual(house.come(text_of("c@h", "About: spam")), [])
        self.assertEqual(house.come(text_of("d@h", "About: work")), ["work"])


class Told(unittest.TestCase):
    def test_what_is_told_may_be_changed(self):
        house = house_of(text_of("a@h", "Marks: m"), text_of("b@h", "Answers: <a@h>"), rules="if always then copy x, mark n")
        before = state(house)
        for told in (house.folders("a@h"), house.marks("a@h"), house.folder("in"), house.names(), house.threads("in")):
            told.append("more")
            del told[0]
        self.assertEqual(state(house), before)
        folders = house.come(text_of("c@h"))
        folders.append("more")
        self.assertEqual(house.folders("c@h"), ["in", "x"])

    def test_what_was_told_stays(self):
        house = house_of(text_of("a@h"))
        told = house.folders("a@h"), house.marks("a@h"), house.folder("in"), house.names(), house.threads("in")
        house.mark("a@h", "m")
        house.move("a@h", "in", "x")
        house.come(text_of("b@h"))
        house.renew("if always then refuse")
        self.assertEqual(told, (["in"], [], ["a@h"], ["in"], ["a@h"]))


if __name__ == "__main__":
    unittest.main()
