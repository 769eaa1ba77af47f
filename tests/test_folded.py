"""letterhouse/rows.py: folded (point 3)."""

import unittest

from letterhouse.errors import BadName, BadValue, TooLong
from letterhouse.rows import folded, unfolded
from things import NO_SIGNS, NO_TEXTS, refusal


class Folded(unittest.TestCase):
    def test_one_row(self):
        self.assertEqual(folded("about", "a day out"), ["About: a day out"])
        self.assertEqual(folded("x", "y"), ["X: y"])

    def test_the_first_letter_of_each_word_is_great(self):
        self.assertEqual(folded("reply-to-all", "Me and YOU"), ["Reply-To-All: Me and YOU"])
        self.assertEqual(folded("a-bc", "a-bc"), ["A-Bc: a-bc"])

    def test_the_empty_value(self):
        self.assertEqual(folded("about", ""), ["About:"])
        self.assertEqual(folded("a-b-c", ""), ["A-B-C:"])

    def test_a_row_just_full_one_less_and_one_more(self):
        for second in range(1, 60):
            rows = folded("to", "abc " + "x" * second)
            with self.subTest(second=second):
                if second <= 52:
                    self.assertEqual(rows, ["To: abc " + "x" * second])
                else:
                    self.assertEqual(rows, ["To: abc", " " + "x" * second])

    def test_a_next_row_just_full_one_less_and_one_more(self):
        head = "Abc: " + "y" * 55
        for second in (53, 54, 55, 56):
            with self.subTest(second=second):
                rows = folded("abc", "y" * 55 + " wxyz " + "x" * second)
                if second <= 54:
                    self.assertEqual(rows, [head, " wxyz " + "x" * second])
                else:
                    self.assertEqual(rows, [head, " wxyz", " " + "x" * second])

    def test_a_first_word_that_just_goes_into_the_first_row(self):
        self.assertEqual(folded("to", "x" * 56), ["To: " + "x" * 56])
        self.assertEqual(folded("a-b", "x" * 55 + " y"), ["A-B: " + "x" * 55, " y"])

    def test_a_first_word_that_does_not_go_into_the_first_row(self):
        self.assertEqual(folded("to", "x" * 57), ["To:", " " + "x" * 57])
        self.assertEqual(folded("to", "x" * 57 + " y"), ["To:", " " + "x" * 57 + " y"])
        self.assertEqual(folded("to", "x" * 59 + " y"), ["To:", " " + "x" * 59, " y"])

    def test_a_word_of_fifty_nine_signs(self):
        self.assertEqual(folded("x", "a " + "b" * 59 + " c"), ["X: a", " " + "b" * 59, " c"])

    def test_the_longest_name(self):
        name = "abcdefgh-ijklmnop-qrstuvwx"
        self.assertEqual(folded(name, "x" * 32), ["Abcdefgh-Ijklmnop-Qrstuvwx: " + "x" * 32])
        self.assertEqual(folded(name, "x" * 33), ["Abcdefgh-Ijklmnop-Qrstuvwx:", " " + "x" * 33])

    def test_as_many_words_in_a_row_as_go_into_it(self):
        for size in range(1, 60):
            value = " ".join(["w" * size] * 40)
            rows = folded("some-name", value)
            with self.subTest(size=size):
                self.assertLessEqual(max(len(row) for row in rows), 60)
                self.assertTrue(all(row.startswith(" ") and row[1] != " " for row in rows[1:]))
                self.assertEqual("".join(rows), "Some-Name: " + value)
                for row, after in zip(rows, rows[1:]):
                    self.assertGreater(len(row) + 1 + len(after.split()[0]), 60)

    def test_what_is_folded_is_read_again(self):
        for size in range(1, 60):
            value = " ".join("v" * (1 + step * size % 59) for step in range(30))
            with self.subTest(size=size):
                self.assertEqual(unfolded(folded("a-name", value)), [("a-name", value)])

    def test_a_long_value(self):
        value = "a " * 29999 + "a"
        self.assertEqual("".join(folded("x", value)), "X: " + value)


class Refused(unittest.TestCase):
    def test_bad_name(self):
        for name in ("", "About", "a--b", "a-b-c-d", "abcdefghi", "a b", "a:", "a\n", "a1") + NO_TEXTS:
            with self.subTest(name=name):
                refusal(BadName, folded, name, "x")

    def test_bad_value(self):
        for value in (" ", " a", "a ", "a  b", "a\nb") + NO_SIGNS + NO_TEXTS:
            with self.subTest(value=value):
                refusal(BadValue, folded, "about", value)

    def test_too_long(self):
        for value in ("x" * 60, "a " + "x" * 60, "x" * 60 + " a", "x" * 59 + " " + "y" * 60, "x" * 60000):
            with self.subTest(value=value):
                refusal(TooLong, folded, "a", value)

    def test_of_several_wrong_things_the_one_told_first(self):
        refusal(BadName, folded, "About", " a")
        refusal(BadName, folded, None, None)
        refusal(BadName, folded, "", "x" * 60)
        refusal(BadValue, folded, "a", "x" * 60 + " ")
        refusal(BadValue, folded, "a", "%" + "x" * 60)


class Told(unittest.TestCase):
    def test_a_told_list_that_was_changed_is_told_again_as_before(self):
        rows = folded("to", "x" * 58 + " y")
        before = list(rows)
        rows[0] = "gone"
        rows.append("more")
        self.assertEqual(folded("to", "x" * 58 + " y"), before)


if __name__ == "__main__":
    unittest.main()
