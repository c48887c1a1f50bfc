"""Point 4: names, worths, paths, figures, marks and the row of heads."""

import itertools
import re
import unittest

from pagelodge.words import (heads_row, is_figures, is_mark, is_name, is_path, is_strong, is_whole, is_worth,
                             worth_of)
from tests.samples import ALPHABET, GREATEST, no_texts, off_by_one

PATTERNS = {
    is_name: "[a-z]{1,8}",
    is_worth: "[a-z0-9-]{0,12}",
    is_path: "[a-z]{1,8}(/[a-z]{1,8}){0,3}",
    is_figures: "0|[1-9][0-9]{0,59}",
    is_mark: "[sw](0|[1-9][0-9]{0,59})",
}
SIXTY = "9" * 60

ARE = {
    is_name: ["a", "z", "page", "abcdefgh", "mnopqrst", "yzuvwxij", "klabcdef"],
    is_worth: ["", "a", "z", "0", "9", "-", "---", "0-a", "-a-", "00", "abcdefghijkl", "mnopqrstuvwx", "yz0123456789"],
    is_path: ["a", "a/b", "a/b/c", "a/b/c/d", "abcdefgh", "/".join(["abcdefgh"] * 4)],
    is_figures: ["0", "1", "9", "10", "100", "1234567890", SIXTY, "1" + "0" * 59],
    is_mark: ["s0", "w0", "s1", "w9", "s10", "w120", "s" + SIXTY, "w" + SIXTY],
}
ARE_NOT = {
    is_name: ["", "A", "aB", "abcdefghi", "a b", " a", "a ", "a1", "a-", "a/b", "a\n", "\xe9", "a" * 5000],
    is_worth: ["A", "a b", " ", "a_b", "a/b", "a.b", "abcdefghijklm", "a\n", "-" * 13, "\u0663", "a" * 5000],
    is_path: ["", "/", "a/", "/a", "a//b", "a/b/c/d/e", "a/b/c/d/", "/a/b/c/d", "A", "a/B", "a/b1", "a /b", "a/b\n",
              "abcdefghi", "a/abcdefghi", "a,b", "a\\b", "////", "a/" * 5000],
    is_figures: ["", "00", "01", "007", "+1", "-1", "1 ", " 1", "1_0", "1.0", "1,0", "0x1", "a", "1\n", "\xb2", "\u0663",
                 "\uff11", SIXTY + "9", "0" * 60, "0" + SIXTY, "9" * 5000],
    is_mark: ["", "s", "w", "S0", "W0", "a0", "0", "0s", "s00", "s01", "sw0", "ss0", "s 0", " s0", "s0 ", "s-1", "s0\n",
              "s\u0663", "s" + SIXTY + "9", "w0" + SIXTY, "w" + "9" * 5000],
}


class Text(str):
    """A text of a class of its own."""


class Words(unittest.TestCase):
    def check(self, told, text):
        expected = re.fullmatch(PATTERNS[told], text) is not None
        if told(text) is not expected:
            self.fail(f"{told.__name__}({text!r}) is not {expected}")

    def test_those_that_are(self):
        for told, texts in ARE.items():
            for text in texts:
                with self.subTest(told.__name__, text=text):
                    self.assertIs(told(text), True)
                    self.assertIs(told(Text(text)), True)

    def test_those_that_are_not(self):
        for told, texts in ARE_NOT.items():
            for text in texts:
                with self.subTest(told.__name__, text=text[:99]):
                    self.assertIs(told(text), False)

    def test_what_is_no_text(self):
        for told in PATTERNS:
            for at, thing in enumerate(no_texts()):
                with self.subTest(told.__name__, at=at):
                    self.assertIs(told(thing), False)

    def test_one_sign_of_the_whole_alphabet(self):
        for told in PATTERNS:
            for sign in ALPHABET:
                self.check(told, sign)

    def test_one_sign_off(self):
        bases = [text for texts in ARE.values() for text in texts] + ["0/0", "s/w", "ab-c", "sw", "a1"]
        for told in PATTERNS:
            for text in bases:
                for other in off_by_one(text):
                    self.check(told, other)

    def test_short_texts_of_telling_signs(self):
        for length in range(5):
            for signs in itertools.product("asz019-/ A", repeat=length):
                for told in PATTERNS:
                    self.check(told, "".join(signs))

    def test_lengths(self):
        for length in range(70):
            for told, sign in itertools.product(PATTERNS, "az190-"):
                self.check(told, sign * length)
                self.check(told, "s" + sign * length)
                self.check(told, "a/" + sign * length)
                self.check(told, "/".join([sign] * length))


class NumbersAndMarks(unittest.TestCase):
    def test_whole_numbers(self):
        for number in (0, 1, -1, GREATEST, -GREATEST, 10 ** 70):
            self.assertIs(is_whole(number), True)

    def test_truths_and_other_things_are_none(self):
        for thing in no_texts() + ["", "0", "1"]:
            if type(thing) is not int:
                self.assertIs(is_whole(thing), False)

    def test_strong_marks(self):
        for figures in ("0", "1", "10", SIXTY):
            self.assertIs(is_strong("s" + figures), True)
            self.assertIs(is_strong("w" + figures), False)


class Heads(unittest.TestCase):
    def test_no_heads(self):
        self.assertEqual(heads_row({}), ())

    def test_sorted_by_names_in_whatever_order(self):
        pairs = [("b", "1"), ("a", "2"), ("ab", "-"), ("who", "0")]
        for order in itertools.permutations(pairs):
            self.assertEqual(heads_row(dict(order)), (("a", "2"), ("ab", "-"), ("b", "1"), ("who", "0")))

    def test_worths_without_signs_are_left_out(self):
        self.assertEqual(heads_row({"a": ""}), ())
        self.assertEqual(heads_row({"z": "", "c": "x", "b": "", "a": "0"}), (("a", "0"), ("c", "x")))

    def test_told_as_tuples(self):
        row = heads_row({"b": "x", "a": "y"})
        self.assertIs(type(row), tuple)
        self.assertEqual([type(pair) for pair in row], [tuple, tuple])

    def test_sixty_three_heads(self):
        names = [first + second for first in "abcdefghi" for second in "tuvwxyz"]
        self.assertEqual(heads_row({name: name for name in reversed(names)}), tuple((name, name) for name in names))

    def test_the_dict_is_not_changed_and_not_held(self):
        heads = {"b": "1", "a": "", "c": "2"}
        row = heads_row(heads)
        self.assertEqual(list(heads.items()), [("b", "1"), ("a", ""), ("c", "2")])
        heads["b"] = "9"
        heads["d"] = "3"
        self.assertEqual(row, (("b", "1"), ("c", "2")))
        self.assertEqual(heads_row(heads), (("b", "9"), ("c", "2"), ("d", "3")))

    def test_worths_told(self):
        heads = {"lang": "de", "who": "0", "empty": "", "abc": "-"}
        for row in (heads_row(heads), list(heads_row(heads))):
            for name, worth in heads.items():
                self.assertEqual(worth_of(row, name), worth)

    def test_a_head_that_is_not_named(self):
        self.assertEqual(worth_of((), "a"), "")
        self.assertEqual(worth_of([], "a"), "")
        row = heads_row({"lang": "de", "who": "0"})
        for name in ("l", "la", "lan", "langs", "ang", "de", "w", "wh", "whom", "a", "z"):
            self.assertEqual(worth_of(row, name), "", name)

    def test_names_that_begin_alike(self):
        row = heads_row({"aaa": "3", "a": "1", "aa": "2"})
        self.assertEqual([worth_of(row, name) for name in ("a", "aa", "aaa", "aaaa")], ["1", "2", "3", ""])


if __name__ == "__main__":
    unittest.main()
