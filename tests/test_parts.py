"""Point 7: parts put together, what is lacking, parts cut, the parts of a text, the weight."""

import itertools
import unittest

from pagelodge.spans import cut, joined, lacking, parts_of, stretches, weight
from tests.samples import FAR, GREATEST, as_parts, as_stretches, moved, moved_parts, subsets

PLACES = 7
SETS = subsets(PLACES)
TEXT = "abcdefghijkl"


def known(places, text=TEXT):
    """What is known of a text at these places."""
    return {place: text[place] for place in places}


class PartsCase(unittest.TestCase):
    def assert_told(self, told, expected, *handed):
        if told != expected or type(told) is not list or any(type(thing) is not tuple for thing in told):
            self.fail(f"{handed} told {told!r}, not {expected!r}")


class Joined(PartsCase):
    def test_examples(self):
        for ones, others, expected in [
            ([], [], []),
            ([(3, "abc")], [], [(3, "abc")]),
            ([], [(3, "abc")], [(3, "abc")]),
            ([(0, "ab")], [(2, "cd")], [(0, "abcd")]),
            ([(2, "cd")], [(0, "ab")], [(0, "abcd")]),
            ([(0, "ab")], [(3, "cd")], [(0, "ab"), (3, "cd")]),
            ([(3, "cd")], [(0, "ab")], [(0, "ab"), (3, "cd")]),
            ([(0, "abc")], [(1, "XYZ")], [(0, "abcZ")]),
            ([(1, "XYZ")], [(0, "abc")], [(0, "aXYZ")]),
            ([(0, "abcde")], [(1, "XY")], [(0, "abcde")]),
            ([(1, "XY")], [(0, "abcde")], [(0, "aXYde")]),
            ([(1, "a"), (3, "c")], [(0, "VWXYZ")], [(0, "VaXcZ")]),
            ([(0, "VWXYZ")], [(1, "a"), (3, "c")], [(0, "VWXYZ")]),
            ([(0, "a"), (4, "e")], [(2, "c")], [(0, "a"), (2, "c"), (4, "e")]),
            ([(0, "a"), (2, "c")], [(1, "b"), (3, "d")], [(0, "abcd")]),
            ([(5, "f")], [(5, "F")], [(5, "f")]),
            ([(0, "a"), (9, "j")], [(1, "b"), (7, "hI")], [(0, "ab"), (7, "hIj")]),
        ]:
            for kind, other in itertools.product((list, tuple), repeat=2):
                with self.subTest(ones, others=others):
                    self.assert_told(joined(kind(ones), other(others)), expected)

    def test_all_parts_of_a_few_places(self):
        for first, second in itertools.product(SETS, repeat=2):
            one, other = known(first), known(second, TEXT.upper())
            ones, others = as_parts(one), as_parts(other)
            self.assert_told(joined(ones, others), as_parts({**other, **one}), ones, others)

    def test_all_parts_of_one_text(self):
        for first, second in itertools.product(SETS, repeat=2):
            ones, others = as_parts(known(first)), as_parts(known(second))
            self.assert_told(joined(tuple(ones), tuple(others)), as_parts(known(first | second)), ones, others)

    def test_the_same_far_off(self):
        for first, second in itertools.product(subsets(5), repeat=2):
            ones, others = as_parts(known(first)), as_parts(known(second, TEXT.upper()))
            for by in (FAR, GREATEST - 5):
                self.assert_told(joined(moved_parts(ones, by), moved_parts(others, by)),
                                 moved_parts(joined(ones, others), by), ones, others)

    def test_near_and_far_together(self):
        self.assertEqual(joined([(GREATEST, "z")], [(0, "a")]), [(0, "a"), (GREATEST, "z")])
        self.assertEqual(joined([(GREATEST, "z"), ], [(GREATEST - 1, "yY")]), [(GREATEST - 1, "yz")])
        self.assertEqual(joined([(0, "a"), (FAR, "b")], [(1, "c"), (FAR - 1, "de")]), [(0, "ac"), (FAR - 1, "db")])

    def test_signs_of_the_whole_alphabet(self):
        ones = [(0, " ~,"), (5, "\"'\\")]
        self.assertEqual(joined(ones, [(3, "..")]), [(0, " ~,..\"'\\")])

    def test_many_parts(self):
        even = [(2 * k, "e") for k in range(1000)]
        odd = [(2 * k + 1, "o") for k in range(1000)]
        self.assertEqual(joined(even, odd), [(0, "eo" * 1000)])
        self.assertEqual(joined(odd, even), [(0, "eo" * 1000)])
        self.assertEqual(joined(even, even), even)
        apart = [(4 * k, "ab") for k in range(500)]
        beside = [(4 * k + 1, "XY") for k in range(500)]
        self.assertEqual(joined(apart, beside), [(4 * k, "abY") for k in range(500)])
        self.assertEqual(joined(beside, apart), [(4 * k, "aXY") for k in range(500)])


class Lacking(PartsCase):
    def test_examples(self):
        for wanted, parts, expected in [
            ([], [], []),
            ([], [(0, "abc")], []),
            ([(0, 5)], [], [(0, 5)]),
            ([(0, 5)], [(0, "abcde")], []),
            ([(0, 5)], [(0, "abcd")], [(4, 5)]),
            ([(0, 5)], [(1, "bcde")], [(0, 1)]),
            ([(0, 5)], [(2, "c")], [(0, 2), (3, 5)]),
            ([(0, 5)], [(5, "f")], [(0, 5)]),
            ([(3, 5)], [(0, "abc")], [(3, 5)]),
            ([(3, 5)], [(0, "abcdefgh")], []),
            ([(0, 2), (4, 6)], [(1, "bcde")], [(0, 1), (5, 6)]),
            ([(0, 2), (4, 6)], [(2, "cd")], [(0, 2), (4, 6)]),
            ([(0, 9)], [(1, "b"), (3, "d"), (8, "ijk")], [(0, 1), (2, 3), (4, 8)]),
        ]:
            for kind, other in itertools.product((list, tuple), repeat=2):
                with self.subTest(wanted, parts=parts):
                    self.assert_told(lacking(kind(wanted), other(parts)), expected)

    def test_all_of_a_few_places(self):
        for first, second in itertools.product(SETS, repeat=2):
            wanted, parts = as_stretches(first), as_parts(known(second))
            self.assert_told(lacking(wanted, parts), as_stretches(first - second), wanted, parts)
            self.assert_told(lacking(tuple(wanted), tuple(parts)), as_stretches(first - second), wanted, parts)

    def test_the_same_far_off(self):
        for first, second in itertools.product(subsets(5), repeat=2):
            wanted, parts = as_stretches(first), as_parts(known(second))
            self.assert_told(lacking(moved(wanted, FAR), moved_parts(parts, FAR)),
                             moved(lacking(wanted, parts), FAR), wanted, parts)

    def test_in_a_text_of_sixty_figures(self):
        self.assertEqual(lacking([(0, GREATEST)], []), [(0, GREATEST)])
        self.assertEqual(lacking([(0, GREATEST)], [(FAR, "abc")]), [(0, FAR), (FAR + 3, GREATEST)])
        self.assertEqual(lacking([(0, GREATEST)], [(0, "a"), (GREATEST - 1, "z")]), [(1, GREATEST - 1)])
        self.assertEqual(lacking([(GREATEST - 1, GREATEST)], [(GREATEST, "z")]), [(GREATEST - 1, GREATEST)])
        self.assertEqual(lacking([(5, 6)], [(GREATEST, "z")]), [(5, 6)])


class Cut(PartsCase):
    def test_examples(self):
        for parts, wanted, expected in [
            ([], [], []),
            ([], [(0, 5)], []),
            ([(0, "abc")], [], []),
            ([(0, "abcde")], [(0, 5)], [(0, "abcde")]),
            ([(0, "abcde")], [(1, 3)], [(1, "bc")]),
            ([(0, "abcde")], [(0, 1), (2, 3), (4, 9)], [(0, "a"), (2, "c"), (4, "e")]),
            ([(3, "defg")], [(0, 9)], [(3, "defg")]),
            ([(3, "defg")], [(0, 3)], []),
            ([(3, "defg")], [(7, 9)], []),
            ([(3, "defg")], [(6, 9)], [(6, "g")]),
            ([(3, "defg")], [(0, 4)], [(3, "d")]),
            ([(0, "ab"), (4, "ef")], [(1, 5)], [(1, "b"), (4, "e")]),
            ([(0, "ab"), (4, "ef")], [(2, 4)], []),
        ]:
            for kind, other in itertools.product((list, tuple), repeat=2):
                with self.subTest(parts, wanted=wanted):
                    self.assert_told(cut(kind(parts), other(wanted)), expected)

    def test_all_of_a_few_places(self):
        for first, second in itertools.product(SETS, repeat=2):
            parts, wanted = as_parts(known(first)), as_stretches(second)
            self.assert_told(cut(parts, wanted), as_parts(known(first & second)), parts, wanted)
            self.assert_told(cut(tuple(parts), tuple(wanted)), as_parts(known(first & second)), parts, wanted)

    def test_the_same_far_off(self):
        for first, second in itertools.product(subsets(5), repeat=2):
            parts, wanted = as_parts(known(first)), as_stretches(second)
            for by in (FAR, GREATEST - 5):
                self.assert_told(cut(moved_parts(parts, by), moved(wanted, by)),
                                 moved_parts(cut(parts, wanted), by), parts, wanted)

    def test_by_stretches_of_sixty_figures(self):
        self.assertEqual(cut([(5, "abc")], [(0, GREATEST)]), [(5, "abc")])
        self.assertEqual(cut([(5, "abc"), (FAR, "xyz")], [(6, FAR + 1)]), [(6, "bc"), (FAR, "x")])
        self.assertEqual(cut([(GREATEST - 2, "abc")], [(GREATEST - 1, GREATEST)]), [(GREATEST - 1, "b")])


class WholeAndWeight(PartsCase):
    def test_the_parts_of_a_whole_text(self):
        self.assert_told(parts_of(""), [])
        for text in ("a", " ", "abc", "0", "~" * 200, "a b,c"):
            self.assert_told(parts_of(text), [(0, text)])

    def test_the_parts_of_a_whole_text_tell_every_place(self):
        for size in range(13):
            parts = parts_of(TEXT[:size])
            self.assertEqual(lacking(stretches((), size), parts), [])
            self.assertEqual(weight(parts), size)

    def test_weight(self):
        for parts, expected in [
            ([], 0),
            ([(0, "a")], 1),
            ([(7, "abc")], 3),
            ([(0, "ab"), (9, "c"), (20, "defg")], 7),
            ([(GREATEST, "abcd")], 4),
            ([(3 * k, "xy") for k in range(63)], 126),
        ]:
            for row in (parts, tuple(parts)):
                self.assertEqual(weight(row), expected)
                self.assertIs(type(weight(row)), int)


if __name__ == "__main__":
    unittest.main()
