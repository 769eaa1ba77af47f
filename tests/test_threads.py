"""letterhouse/threads.py: elders, trees and their rows (points 1 and 14)."""

import itertools
import unittest

from letterhouse.letters import letter_text
from letterhouse.threads import elders_of, thread_rows, threads_of
from letters_of import answering


def chain(many, width=3):
    """So many letters, each of which answers the one ahead of it."""
    names = [f"{number:0{width}d}@h" for number in range(many)]
    return [answering(name, answers=names[at - 1] if at else None) for at, name in enumerate(names)]


def tree(address, *below, there=True):
    return address, there, list(below)


class Elders(unittest.TestCase):
    def elders(self, elders, *letters):
        """The elders of letters, in whatever order they come."""
        for some in itertools.permutations(letters):
            self.assertEqual(elders_of(list(some)), elders)

    def test_no_letters(self):
        self.elders({})

    def test_a_letter_that_names_none(self):
        self.elders({"a@h": None}, answering("a@h"))

    def test_answers(self):
        self.elders({"a@h": None, "b@h": "a@h"}, answering("a@h"), answering("b@h", answers="a@h"))

    def test_the_last_address_of_refers(self):
        self.elders({"a@h": "d@h"}, answering("a@h", "b@h", "c@h", "d@h"))
        self.elders({"a@h": "b@h"}, answering("a@h", "d@h", "c@h", "b@h"))

    def test_refers_is_asked_ahead_of_answers(self):
        self.elders({"a@h": "b@h"}, answering("a@h", "b@h", answers="c@h"))

    def test_the_own_address_is_passed_over(self):
        self.elders({"a@h": "c@h"}, answering("a@h", "b@h", "c@h", "a@h"))
        self.elders({"a@h": "c@h"}, answering("a@h", "a@h", "c@h", "a@h", "a@h"))
        self.elders({"a@h": "c@h"}, answering("a@h", "a@h", "a@h", answers="c@h"))
        self.elders({"a@h": None}, answering("a@h", answers="a@h"))
        self.elders({"a@h": None}, answering("a@h", "a@h", answers="a@h"))
        self.elders({"a@h": "b@h"}, answering("a@h", "b@h", answers="a@h"))

    def test_a_letter_that_lacks_is_an_elder_but_has_none(self):
        self.elders({"b@h": "a@h", "c@h": "a@h"}, answering("b@h", answers="a@h"), answering("c@h", answers="a@h"))

    def test_a_ring_of_two(self):
        self.elders({"a@h": None, "b@h": "a@h"}, answering("a@h", answers="b@h"), answering("b@h", answers="a@h"))

    def test_a_ring_of_three_either_way(self):
        self.elders({"a@h": None, "b@h": "a@h", "c@h": "b@h"}, answering("a@h", answers="c@h"), answering("b@h", answers="a@h"),
                    answering("c@h", answers="b@h"))
        self.elders({"a@h": None, "b@h": "c@h", "c@h": "a@h"}, answering("a@h", answers="b@h"), answering("b@h", answers="c@h"),
                    answering("c@h", answers="a@h"))

    def test_the_least_address_is_that_of_the_ring_as_text(self):
        self.elders({"10@h": None, "9@h": "10@h", "0@h": "9@h"}, answering("10@h", answers="9@h"),
                    answering("9@h", answers="10@h"), answering("0@h", answers="9@h"))
        self.elders({"a-@h": None, "a@h": "a-@h"}, answering("a@h", answers="a-@h"), answering("a-@h", answers="a@h"))

    def test_letters_beside_a_ring_stay(self):
        self.elders({"a@h": "c@h", "b@h": None, "c@h": "b@h", "z@h": "b@h"}, answering("a@h", answers="c@h"),
                    answering("b@h", answers="c@h"), answering("c@h", answers="b@h"), answering("z@h", answers="b@h"))

    def test_two_rings(self):
        self.elders({"a@h": None, "d@h": "a@h", "b@h": None, "c@h": "b@h"}, answering("a@h", answers="d@h"),
                    answering("d@h", answers="a@h"), answering("b@h", answers="c@h"), answering("c@h", answers="b@h"))

    def test_all_ways_in_which_four_letters_answer_one_another(self):
        names = ["a@h", "b@h", "c@h", "d@h"]
        for answers in itertools.product([None, *names, "e@h"], repeat=4):
            named = {name: other if other != name else None for name, other in zip(names, answers)}
            letters = [answering(name, answers=other) for name, other in zip(names, answers)]
            self.assertEqual(elders_of(letters), self.without_rings(named), answers)
            self.assertEqual(elders_of(letters[::-1]), self.without_rings(named), answers)

    def without_rings(self, named):
        """Elders without rings, told otherwise than the program tells them: by who is reached from where."""
        reached = {}
        for name in named:
            reached[name] = []
            above = named[name]
            while above is not None and above not in reached[name]:
                reached[name].append(above)
                above = named.get(above)
        rings = [[other for other in reached[name] if name in reached.get(other, [])] for name in named]
        least = [min(ring) for ring in rings if ring]
        return {name: None if name in least else above for name, above in named.items()}

    def test_a_ring_of_two_hundred(self):
        names = [f"{number:03d}@h" for number in range(200)]
        letters = [answering(name, answers=names[at - 1]) for at, name in enumerate(names)]
        wanted = {name: names[at - 1] if at else None for at, name in enumerate(names)}
        self.assertEqual(elders_of(letters), wanted)
        self.assertEqual(elders_of(letters[::-1]), wanted)


class Trees(unittest.TestCase):
    def trees(self, trees, *letters):
        """The trees of letters, in whatever order they come."""
        for some in itertools.permutations(letters):
            self.assertEqual(threads_of(list(some)), trees)

    def test_no_letters(self):
        self.trees([])

    def test_letters_by_their_addresses(self):
        self.trees([tree("a@h"), tree("b@h"), tree("c@h")], answering("b@h"), answering("c@h"), answering("a@h"))
        self.trees([tree("10@h"), tree("9@h")], answering("9@h"), answering("10@h"))

    def test_those_whose_elder_it_is(self):
        self.trees([tree("m@h", tree("a@h", tree("x@h")), tree("z@h"))], answering("m@h"), answering("z@h", "m@h"),
                   answering("a@h", answers="m@h"), answering("x@h", "m@h", "a@h"))

    def test_letters_that_lack(self):
        self.trees([tree("b@h"), tree("m@h", tree("a@h"), tree("c@h"), there=False), tree("z@h")], answering("z@h"),
                   answering("a@h", answers="m@h"), answering("c@h", "q@h", "m@h"), answering("b@h"))

    def test_letters_that_lack_stand_among_the_others_by_address(self):
        self.trees([tree("a@h", tree("z@h"), there=False), tree("m@h"), tree("x@h", tree("b@h"), there=False)],
                   answering("z@h", answers="a@h"), answering("m@h"), answering("b@h", answers="x@h"))

    def test_others_in_refers_do_not_lack(self):
        self.trees([tree("c@h", tree("a@h"), there=False)], answering("a@h", "b@h", "c@h", answers="d@h"))

    def test_rings(self):
        self.trees([tree("a@h", tree("c@h", tree("b@h")))], answering("a@h", answers="b@h"), answering("b@h", answers="c@h"),
                   answering("c@h", answers="a@h"))

    def test_kinds_of_what_is_told(self):
        trees = threads_of([answering("a@h", answers="b@h")])
        self.assertIs(type(trees), list)
        self.assertIs(type(trees[0]), tuple)
        self.assertIs(trees[0][1], False)
        self.assertIs(type(trees[0][2]), list)
        self.assertIs(trees[0][2][0][1], True)


class Rows(unittest.TestCase):
    def rows(self, rows, *letters):
        """The rows of letters, in whatever order they come."""
        for some in itertools.permutations(letters):
            self.assertEqual(thread_rows(list(some)), rows)

    def test_no_letters(self):
        self.rows([])

    def test_each_ahead_of_those_whose_elder_it_is(self):
        letters = [answering("m@h"), answering("c@h", answers="m@h"), answering("b@h", answers="m@h"),
                   answering("y@h", answers="b@h"), answering("x@h", answers="b@h"), answering("a1@h", answers="c@h"),
                   answering("z@h"), answering("a@h")]
        wanted = ["a@h", "m@h", "  b@h", "    x@h", "    y@h", "  c@h", "    a1@h", "z@h"]
        self.assertEqual(thread_rows(letters), wanted)
        self.assertEqual(thread_rows(letters[::-1]), wanted)

    def test_letters_that_lack(self):
        self.rows(["b@h ?", "  a@h", "    c@h", "d@h"], answering("a@h", answers="b@h"), answering("c@h", answers="a@h"),
                  answering("d@h"))

    def test_rings(self):
        self.rows(["a@h", "  b@h", "    c@h"], answering("a@h", answers="c@h"), answering("b@h", answers="a@h"),
                  answering("c@h", answers="b@h"))

    def test_two_hundred_letters_in_a_row(self):
        letters = chain(200)
        wanted = [f"{'  ' * number}{number:03d}@h" for number in range(200)]
        self.assertEqual(thread_rows(letters), wanted)
        self.assertEqual(thread_rows(letters[::-1]), wanted)
        self.assertEqual(thread_rows(letters[1:]), [wanted[0] + " ?", *wanted[1:]])

    def test_two_hundred_letters_side_by_side(self):
        letters = [answering(f"{number:03d}@h", answers="z@h") for number in range(200)]
        self.assertEqual(thread_rows(letters), ["z@h ?"] + [f"  {number:03d}@h" for number in range(200)])


class Kept(unittest.TestCase):
    def test_letters_handed_in_stay(self):
        letters = [answering("b@h", "c@h", "a@h"), answering("a@h", answers="b@h")]
        before = list(letters)
        texts = [letter_text(letter) for letter in letters]
        for ask in (elders_of, threads_of, thread_rows):
            ask(letters)
        self.assertEqual(letters, before)
        self.assertEqual([letter_text(letter) for letter in letters], texts)

    def test_what_is_told_may_be_changed(self):
        letters = [answering("b@h", answers="a@h"), answering("c@h", answers="b@h")]
        for ask in (elders_of, threads_of, thread_rows):
            before = repr(ask(letters))
            ask(letters).clear()
            self.assertEqual(repr(ask(letters)), before)
        trees = threads_of(letters)
        before = repr(trees)
        other = threads_of(letters)
        other[0][2][0][2].clear()
        other[0][2].append("more")
        self.assertEqual(repr(trees), before)
        self.assertEqual(repr(threads_of(letters)), before)


if __name__ == "__main__":
    unittest.main()
