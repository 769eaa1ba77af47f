"""letterhouse/shell.py: the house asked by lines (points 1 and 17)."""

import unittest

from letterhouse import errors
from letterhouse.house import House
from letterhouse.shell import answer, play
from letters_of import text_of
from things import NO_TEXTS

COMMANDS = {"move": 3, "drop": 2, "mark": 2, "unmark": 2, "folders": 1, "marks": 1, "folder": 1, "names": 0, "threads": 1, "text": 1}


class Lines(unittest.TestCase):
    def setUp(self):
        self.house = House("if always then copy x")
        self.house.come(text_of("a@h", "Marks: m, n"))
        self.house.come(text_of("b@h", "Answers: <a@h>"))
        self.house.come(text_of("c@h", "Answers: <q@h>"))

    def told(self, *pairs):
        for line, wanted in pairs:
            with self.subTest(line=line):
                self.assertEqual(answer(self.house, line), wanted)

    def test_what_is_told(self):
        self.told(("folders a@h", "in x"), ("marks a@h", "m n"), ("marks b@h", ""), ("folder in", "a@h b@h c@h"),
                  ("folder other", ""), ("names", "in x"), ("threads in", "a@h\n  b@h\nq@h ?\n  c@h"), ("threads other", ""),
                  ("text a@h", text_of("a@h", "Marks: m, n")))

    def test_what_is_done(self):
        self.told(("move a@h in y", "done"), ("folders a@h", "x y"), ("drop a@h x", "done"), ("folders a@h", "y"),
                  ("mark a@h z", "done"), ("marks a@h", "m n z"), ("unmark a@h m", "done"), ("marks a@h", "n z"),
                  ("mark a@h z", "done"), ("unmark a@h q", "done"), ("names", "in x y"), ("drop a@h y", "done"),
                  ("folder in", "b@h c@h"), ("names", "in x"), ("threads in", "a@h ?\n  b@h\nq@h ?\n  c@h"))

    def test_a_house_of_nothing(self):
        for line in ("names", "folder in", "threads in"):
            self.assertEqual(answer(House(), line), "")

    def test_names_may_be_words_of_the_shell(self):
        self.told(("move a@h x names", "done"), ("folder names", "a@h"), ("mark a@h mark", "done"), ("marks a@h", "m mark n"))

    def test_refused(self):
        self.told(("folders z@h", "refused noletter"), ("marks z", "refused noletter"), ("text %", "refused noletter"),
                  ("move z@h in x", "refused noletter"), ("drop z@h in", "refused noletter"), ("mark z@h m", "refused noletter"),
                  ("unmark z@h m", "refused noletter"), ("move a@h In x", "refused badname"), ("move a@h in X", "refused badname"),
                  ("drop a@h 1", "refused badname"), ("mark a@h a-b", "refused badname"), ("unmark a@h " + "x" * 13, "refused badname"),
                  ("folder In", "refused badname"), ("threads in%", "refused badname"), ("move a@h y in", "refused nofolder"),
                  ("drop a@h y", "refused nofolder"), ("folder in\r", "refused badname"), ("move z@h In X", "refused noletter"),
                  ("move a@h y X", "refused badname"))
        self.told(("folders a@h", "in x"), ("marks a@h", "m n"))

    def test_what_is_no_line_of_these(self):
        self.told(*[(line, "refused badline") for line in (
            "", " ", "x", "Names", "names ", " names", "names  ", "names in", "move", "move a@h", "move a@h in", "move a@h in x y",
            "move  a@h in x", "move a@h in x ", "drop a@h", "drop a@h in x", "mark a@h", "unmark a@h", "mark a@h m n", "folders",
            "folders a@h in", "marks", "folder", "folder in x", "folder ", "folder  in", "threads", "threads in in", "text",
            "text a@h b@h", "come", "come x", "renew", "renew x", "names\n", "folder in\n", "folder\nin", "\n", "mark a@h m\nn",
            "folder\tin", "%", "text\n")])
        self.told(*[(thing, "refused badline") for thing in NO_TEXTS])
        self.told(("folders a@h", "in x"), ("marks a@h", "m n"))

    def test_how_many_words_each_has(self):
        for command, wanted in COMMANDS.items():
            for many in range(6):
                is_refused = answer(self.house, " ".join([command] + ["A"] * many)) == "refused badline"
                self.assertEqual(is_refused, many != wanted, (command, many))

    def test_each_refusal_of_a_house(self):
        for name in ("BadBytes", "BadName", "BadValue", "TooLong", "NoTime", "BadPiece", "Twice", "NoLetter", "NoFolder", "BadLine",
                     "HouseError"):
            self.assertEqual(answer(Refusing(getattr(errors, name)("why")), "names"), f"refused {name.lower()}")
        for name in ("Wrong", "BadRow", "BadSixty", "BadSixteens", "BadTime", "BadPeople", "BadHeader", "BadBody", "BadRule"):
            self.assertEqual(answer(Refusing(getattr(errors, name)(3, 61)), "names"), f"refused {name.lower()} 3 61")

    def test_play(self):
        lines = ["names", "x", "drop a@h in", "folders a@h", 7, "folder in"]
        before = list(lines)
        told = play(self.house, lines)
        self.assertEqual(told, ["in x", "refused badline", "done", "x", "refused badline", "b@h c@h"])
        self.assertIs(type(told), list)
        self.assertEqual(lines, before)
        self.assertEqual(play(self.house, []), [])


class Refusing:
    """A house that refuses to tell its names."""

    def __init__(self, error):
        self.error = error

    def names(self):
        raise self.error


if __name__ == "__main__":
    unittest.main()
