"""Point 2: what is handed in stays as it is, what is told is the asker's own, and may be handed in again."""

import copy
import unittest

from pagelodge.errors import NoSpan
from pagelodge.spans import cut, joined, lacking, parts_of, read_spans, show_spans, stretches, weight
from pagelodge.words import heads_row, worth_of
from tests.samples import FAR, GREATEST

# Each function with what is handed in: some of it such that what is told equals what was handed in.
CALLS = [
    (heads_row, [{"b": "1", "a": "", "c": "2"}]),
    (heads_row, [{}]),
    (worth_of, [[("a", "1"), ("b", "2")], "b"]),
    (worth_of, [[], "b"]),
    (read_spans, [""]),
    (read_spans, ["0..1,1..,..2"]),
    (show_spans, [[]]),
    (show_spans, [[(5, 9), (0, None), (None, 4)]]),
    (stretches, [[], 9]),
    (stretches, [[], 0]),
    (stretches, [[(2, 4)], 9]),
    (stretches, [[(7, 8), (None, 4), (0, 2), (1, 3)], 9]),
    (joined, [[], []]),
    (joined, [[(0, "ab")], []]),
    (joined, [[], [(0, "ab")]]),
    (joined, [[(5, "fg"), (9, "j")], [(0, "abcdef"), (8, "i")]]),
    (joined, [[(FAR, "fg")], [(GREATEST, "a")]]),
    (lacking, [[], []]),
    (lacking, [[], [(0, "ab")]]),
    (lacking, [[(0, 4), (6, 9)], []]),
    (lacking, [[(0, 4), (6, 9)], [(1, "bc"), (7, "h")]]),
    (cut, [[], []]),
    (cut, [[(0, "ab"), (4, "e")], []]),
    (cut, [[(0, "ab"), (4, "e")], [(0, 9)]]),
    (cut, [[(0, "ab"), (4, "e")], [(1, 2), (4, 9)]]),
    (parts_of, [""]),
    (parts_of, ["abc"]),
    (weight, [[(0, "ab"), (4, "e")]]),
]


def as_tuples(handed):
    return [tuple(thing) if isinstance(thing, list) else thing for thing in handed]


class Handing(unittest.TestCase):
    def test_nothing_handed_in_is_changed(self):
        for function, handed in CALLS:
            with self.subTest(function.__name__, handed=handed):
                before = copy.deepcopy(handed)
                function(*handed)
                self.assertEqual(handed, before)
                for thing, was in zip(handed, before):
                    if isinstance(thing, dict):
                        self.assertEqual(list(thing), list(was))

    def test_rows_as_lists_and_as_tuples(self):
        for function, handed in CALLS:
            with self.subTest(function.__name__, handed=handed):
                self.assertEqual(function(*handed), function(*as_tuples(handed)))

    def test_changing_what_was_handed_in_changes_nothing(self):
        for function, handed in CALLS:
            with self.subTest(function.__name__, handed=handed):
                given = copy.deepcopy(handed)
                told = function(*given)
                before = copy.deepcopy(told)
                for thing in given:
                    if isinstance(thing, (list, dict)):
                        thing.clear()
                self.assertEqual(told, before)
                self.assertEqual(function(*handed), before)

    def test_lists_told_are_new_each_time(self):
        for function, handed in CALLS:
            told = function(*handed)
            if isinstance(told, list):
                with self.subTest(function.__name__, handed=handed):
                    before = list(told)
                    given = copy.deepcopy(handed)
                    again = function(*handed)
                    self.assertIsNot(again, told)
                    told.clear()
                    told.append("spoiled")
                    self.assertEqual(again, before)
                    self.assertEqual(handed, given)
                    self.assertEqual(function(*handed), before)

    def test_what_brackets_write_is_told_as_tuples(self):
        for function, handed in CALLS:
            for row in (handed, as_tuples(handed)):
                told = function(*row)
                if isinstance(told, (list, tuple)):
                    with self.subTest(function.__name__, handed=handed):
                        self.assertEqual({type(thing) for thing in told} - {tuple}, set())

    def test_a_refusal_changes_nothing(self):
        for text in ("0..1,x", "x"):
            with self.assertRaises(NoSpan):
                read_spans(text)
        self.assertEqual(read_spans("0..1"), [(0, 1)])

    def test_more_than_sixty_three_things_told_are_handed_in_again(self):
        parts = [(2 * k, "x") for k in range(200)]
        gaps = lacking([(0, 400)], parts)
        self.assertEqual(gaps, [(2 * k + 1, 2 * k + 2) for k in range(200)])
        self.assertEqual(read_spans(show_spans(gaps)), gaps)
        self.assertEqual(stretches(gaps, 400), gaps)
        self.assertEqual(cut(parts_of("y" * 400), gaps), [(2 * k + 1, "y") for k in range(200)])
        self.assertEqual(joined(parts, cut(parts_of("y" * 400), gaps)), [(0, "xy" * 200)])
        self.assertEqual(weight(joined(parts, parts)), 200)

    def test_numbers_of_more_than_sixty_figures(self):
        past = 10 ** 60
        parts = joined([(GREATEST, "abc")], [(past + 2, "d")])
        self.assertEqual(parts, [(GREATEST, "abcd")])
        self.assertEqual(cut(parts, [(past, past + 2)]), [(past, "bc")])
        self.assertEqual(lacking([(GREATEST - 1, past + 9)], parts), [(GREATEST - 1, GREATEST), (past + 3, past + 9)])
        self.assertEqual(stretches([(past, None), (None, 10 ** 90)], past + 1), [(0, past + 1)])
        self.assertEqual(weight([(10 ** 90, "abc")]), 3)


if __name__ == "__main__":
    unittest.main()
