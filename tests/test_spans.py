"""Points 5 and 6: spans, their text, and the stretches that they tell."""

import itertools
import re
import unittest

from pagelodge.errors import NoSpan, PageError
from pagelodge.spans import read_spans, show_spans, stretches
from tests.samples import ALPHABET, FAR, GREATEST, as_stretches, moved

SIXTY = "9" * 60
WRITTEN = [
    ([], ""),
    ([(0, 1)], "0..1"),
    ([(0, None)], "0.."),
    ([(None, 1)], "..1"),
    ([(9, 10)], "9..10"),
    ([(12, 120)], "12..120"),
    ([(7, None)], "7.."),
    ([(None, 30)], "..30"),
    ([(GREATEST - 1, GREATEST)], "9" * 59 + "8.." + SIXTY),
    ([(0, GREATEST)], "0.." + SIXTY),
    ([(GREATEST, None)], SIXTY + ".."),
    ([(None, GREATEST)], ".." + SIXTY),
    ([(0, 1), (1, None), (None, 2)], "0..1,1..,..2"),
    ([(5, 9), (5, 9), (0, 3)], "5..9,5..9,0..3"),
    ([(None, 1), (None, 1)], "..1,..1"),
]
# Pieces that tell no span.
NO_PIECES = [
    "", " ", "0", "12", ".", "..", "...", "....", "1.2", "1...2", "1....2", ".1", "1.", "...1", "1...", "1. .2",
    "..0", "0..0", "7..7", SIXTY + ".." + SIXTY, "1..0", "10..9", "3..2", "100..99",
    "01..2", "1..02", "00..1", "00..", "01..", "..01", "..00", "0..00",
    "1" + "0" * 60 + "..", "..1" + "0" * 60, "0..1" + "0" * 60, "0" + SIXTY + "..",
    " 1..2", "1..2 ", "1 ..2", "1.. 2", " ..2", "1.. ", "1 2", "\n1..2", "1..2\n",
    "-1..2", "+1..2", "1..-2", "1..+2", "..-1", "..+1", "-1..", "+1..", "-0..",
    "a", "a..b", "1..b", "a..2", "a..", "..a", "1..2..3", "1..2..", "..1..2", "..1..", "1..2.", ".1..2", "1-2", "1:2",
    "1;2", "1_0..11", "1e1..20", "0x1..2", "\u0661..\u0662", "\xb2..", "..\uff11", "1\u20252", "None", "1..None",
    "None..1", "(1, 2)", "[]", "1..2;3..4", "1..2/3..4",
]


def span_of(piece):
    """The span that a piece tells, or None, by the words of point 5."""
    figures = "(0|[1-9][0-9]{0,59})"
    if found := re.fullmatch(figures + r"\.\." + figures, piece):
        span = (int(found[1]), int(found[2]))
        return span if span[0] < span[1] else None
    if found := re.fullmatch(figures + r"\.\.", piece):
        return (int(found[1]), None)
    if found := re.fullmatch(r"\.\." + figures, piece):
        return (None, int(found[1])) if int(found[1]) >= 1 else None
    return None


class SpanTexts(unittest.TestCase):
    def refused_at(self, text, at):
        with self.assertRaises(NoSpan) as caught:
            read_spans(text)
        self.assertEqual(vars(caught.exception), {"at": at}, text)
        self.assertIs(type(caught.exception.at), int)

    def test_written_and_read_again(self):
        for spans, text in WRITTEN:
            with self.subTest(text):
                self.assertEqual(show_spans(spans), text)
                self.assertEqual(show_spans(tuple(spans)), text)
                self.assertEqual(read_spans(text), spans)

    def test_read_to_a_list_of_tuples(self):
        for spans, text in WRITTEN:
            read = read_spans(text)
            self.assertIs(type(read), list)
            for span in read:
                self.assertIs(type(span), tuple)
                self.assertTrue(all(end is None or type(end) is int for end in span))

    def test_sixty_three_spans(self):
        kinds = [lambda k: (k, k + 7), lambda k: (k, None), lambda k: (None, k + 1)]
        spans = [kinds[k % 3](k) for k in range(63)]
        text = ",".join([f"{k}..{k + 7},{k + 1}..,..{k + 3}" for k in range(0, 63, 3)])
        self.assertEqual(show_spans(spans), text)
        self.assertEqual(show_spans(tuple(spans)), text)
        self.assertEqual(read_spans(text), spans)

    def test_many_more_spans_than_are_handed_in(self):
        spans = [(4 * k, 4 * k + 2) for k in range(1000)]
        self.assertEqual(read_spans(show_spans(spans)), spans)

    def test_numbers_of_more_figures_are_shown(self):
        self.assertEqual(show_spans([(GREATEST, GREATEST + 1)]), SIXTY + "..1" + "0" * 60)

    def test_pieces_that_tell_none(self):
        for piece in NO_PIECES:
            with self.subTest(piece):
                # Alone the piece without signs is the text without signs, which tells no spans at all.
                if piece != "":
                    self.refused_at(piece, 0)
                self.refused_at(piece + ",0..1", 0)
                self.refused_at("0..1," + piece, 1)
                self.refused_at("0..1," + piece + ",..2", 1)
                self.refused_at("0..1,1..,..2," + piece, 3)

    def test_the_first_of_several_pieces_counts(self):
        for first, second in itertools.product(["", "..0", "x", "3..2"], repeat=2):
            self.refused_at(f"0..1,{first},..1,{second}", 1)
            self.refused_at(f"{first},{second}", 0)

    def test_the_last_of_many_pieces(self):
        for many in (1, 2, 9, 10, 62):
            self.refused_at("0..1," * many + "1..1", many)
            self.refused_at("0..1," * many, many)

    def test_commas_alone(self):
        for many in range(1, 5):
            self.refused_at("," * many, 0)

    def test_one_sign_put_in_or_exchanged(self):
        for text in ("10..25", "10..", "..25"):
            for at in range(len(text) + 1):
                for sign in ALPHABET:
                    if sign not in "0123456789.,":
                        self.refused_at(text[:at] + sign + text[at:], 0)
                        self.refused_at(text[:at] + sign + text[at + 1:], 0)

    def test_all_short_texts(self):
        for length in range(1, 8):
            for signs in itertools.product("019.,", repeat=length):
                text = "".join(signs)
                spans = [span_of(piece) for piece in text.split(",")]
                if None in spans:
                    self.refused_at(text, spans.index(None))
                else:
                    self.assertEqual(read_spans(text), spans)
                    self.assertEqual(show_spans(spans), text)

    def test_page_error_takes_it(self):
        with self.assertRaises(PageError) as caught:
            read_spans("0..1,x")
        self.assertEqual(caught.exception.at, 1)


def places(spans, size):
    """The places of a text of this size that one of the spans tells, by point 5 alone."""
    if not spans:
        return set(range(size))
    told = set()
    for a, b in spans:
        if a is None:
            told |= set(list(range(size))[-b:])
        else:
            told |= {place for place in range(size) if a <= place and (b is None or place < b)}
    return told


def all_spans(most):
    ends = range(most)
    return ([(a, b) for a in ends for b in ends if a < b] + [(a, None) for a in ends]
            + [(None, n) for n in ends if n > 0])


class Stretches(unittest.TestCase):
    def check(self, spans, size):
        expected = as_stretches(places(spans, size))
        for row in (list(spans), tuple(spans)):
            told = stretches(row, size)
            if told != expected:
                self.fail(f"stretches({row}, {size}) is {told}, not {expected}")

    def test_no_spans_tell_every_place(self):
        for row in ([], ()):
            self.assertEqual(stretches(row, 0), [])
            self.assertEqual(stretches(row, 1), [(0, 1)])
            self.assertEqual(stretches(row, 200), [(0, 200)])
            self.assertEqual(stretches(row, GREATEST), [(0, GREATEST)])

    def test_examples(self):
        for spans, size, expected in [
            ([(2, 5)], 9, [(2, 5)]),
            ([(2, 5), (5, 7)], 9, [(2, 7)]),
            ([(5, 7), (2, 5)], 9, [(2, 7)]),
            ([(2, 5), (6, 7)], 9, [(2, 5), (6, 7)]),
            ([(6, 7), (2, 5)], 9, [(2, 5), (6, 7)]),
            ([(1, 4), (3, 6)], 9, [(1, 6)]),
            ([(1, 8), (3, 4)], 9, [(1, 8)]),
            ([(3, 4), (1, 8)], 9, [(1, 8)]),
            ([(1, 8), (2, 3), (5, 9)], 9, [(1, 9)]),
            ([(0, 1), (3, 9), (4, 5)], 9, [(0, 1), (3, 9)]),
            ([(2, 3), (2, 3)], 9, [(2, 3)]),
            ([(7, 12)], 9, [(7, 9)]),
            ([(9, 12)], 9, []),
            ([(10, 12)], 9, []),
            ([(9, None)], 9, []),
            ([(20, None)], 9, []),
            ([(8, None)], 9, [(8, 9)]),
            ([(0, None)], 9, [(0, 9)]),
            ([(None, 3)], 9, [(6, 9)]),
            ([(None, 9)], 9, [(0, 9)]),
            ([(None, 10)], 9, [(0, 9)]),
            ([(None, 1), (0, 1)], 9, [(0, 1), (8, 9)]),
            ([(20, 30), (0, 1), (15, None)], 9, [(0, 1)]),
            ([(0, 5), (3, None), (None, 2)], 0, []),
        ]:
            with self.subTest(spans, size=size):
                self.assertEqual(stretches(spans, size), expected)

    def test_all_rows_of_up_to_two_spans(self):
        for size in range(6):
            spans = all_spans(8)
            for many in range(3):
                for row in itertools.product(spans, repeat=many):
                    self.check(row, size)

    def test_all_rows_of_three_spans(self):
        for size in (0, 4, 5):
            for row in itertools.product(all_spans(6), repeat=3):
                self.check(row, size)

    def test_rows_of_sixty_three_spans(self):
        apart = [(3 * k, 3 * k + 2) for k in range(63)]
        self.assertEqual(stretches(apart, 300), apart)
        self.assertEqual(stretches(apart[::-1], 300), apart)
        self.assertEqual(stretches(apart[1::2] + apart[::2], 100), apart[:33] + [(99, 100)])
        self.assertEqual(stretches([(k, k + 1) for k in range(62, -1, -1)], 300), [(0, 63)])
        self.assertEqual(stretches([(2, 9)] * 63, 8), [(2, 8)])

    def test_sizes_of_sixty_figures(self):
        self.assertEqual(stretches([(0, GREATEST)], GREATEST), [(0, GREATEST)])
        self.assertEqual(stretches([(FAR, None)], GREATEST), [(FAR, GREATEST)])
        self.assertEqual(stretches([(None, 2)], GREATEST), [(GREATEST - 2, GREATEST)])
        self.assertEqual(stretches([(None, GREATEST)], GREATEST), [(0, GREATEST)])
        self.assertEqual(stretches([(None, GREATEST)], FAR), [(0, FAR)])
        self.assertEqual(stretches([(GREATEST - 1, None), (None, FAR)], FAR), [(0, FAR)])
        self.assertEqual(stretches([(FAR, FAR + 1), (FAR + 2, GREATEST), (FAR + 1, FAR + 2)], GREATEST),
                         [(FAR, GREATEST)])
        self.assertEqual(stretches([(GREATEST - 1, GREATEST)], GREATEST - 1), [])
        self.assertEqual(stretches([(None, 1), (FAR, FAR + 5), (0, 1)], GREATEST),
                         [(0, 1), (FAR, FAR + 5), (GREATEST - 1, GREATEST)])

    def test_the_same_far_off(self):
        spans = [(a, b) for a, b in all_spans(6) if a is not None]
        for row in itertools.product(spans, repeat=2):
            far = [(a + FAR, None if b is None else b + FAR) for a, b in row]
            self.assertEqual(stretches(far, FAR + 4), moved(stretches(row, 4), FAR))

    def test_told_as_a_list_of_tuples(self):
        for spans in ([], [(1, 3), (5, None)], [(None, 2)], [(9, None)]):
            told = stretches(spans, 7)
            self.assertIs(type(told), list)
            self.assertTrue(all(type(stretch) is tuple for stretch in told))

    def test_what_was_told_tells_the_same_again(self):
        for row in itertools.product(all_spans(6), repeat=2):
            told = stretches(row, 5)
            if told:
                self.assertEqual(stretches(told, 5), told)
                self.assertEqual(stretches(read_spans(show_spans(told)), 5), told)


if __name__ == "__main__":
    unittest.main()
