"""Points 5 to 7 together: asking for what is lacking, fetching it, and putting it to what is known."""

import itertools
import unittest

from pagelodge.spans import cut, joined, lacking, parts_of, read_spans, show_spans, stretches, weight
from tests.samples import FAR, as_parts, as_stretches, moved, moved_parts, subsets

TEXT = "Some text, of twenty"
SETS = subsets(7)


def known(places):
    return as_parts({place: TEXT[place] for place in places})


class Together(unittest.TestCase):
    def test_what_is_lacking_is_fetched_once(self):
        whole = parts_of(TEXT[:7])
        for first, second in itertools.product(SETS, repeat=2):
            wanted, parts = as_stretches(first), known(second)
            lacks = lacking(wanted, parts)
            fetched = cut(whole, lacks)
            for after in (joined(parts, fetched), joined(fetched, parts)):
                self.assertEqual(after, known(first | second))
                self.assertEqual(lacking(wanted, after), [])
                self.assertEqual(weight(after), weight(parts) + weight(fetched))
            self.assertEqual(cut(parts, lacks), [])
            self.assertEqual(lacking(lacks, fetched), [])

    def test_what_is_lacking_is_asked_for_by_spans(self):
        # No spans tell every place, so only what lacks something is asked for.
        for first, second in itertools.product(SETS, repeat=2):
            lacks = lacking(as_stretches(first), known(second))
            if lacks:
                self.assertEqual(read_spans(show_spans(lacks)), lacks)
                self.assertEqual(stretches(lacks, 7), lacks)

    def test_what_is_cut_and_the_rest_are_the_whole(self):
        for size in range(8):
            whole = parts_of(TEXT[:size])
            for places in subsets(size):
                one = cut(whole, as_stretches(places))
                rest = cut(whole, lacking(stretches((), size), one))
                self.assertEqual(joined(one, rest), whole)
                self.assertEqual(joined(rest, one), whole)
                self.assertEqual(weight(one) + weight(rest), size)

    def test_by_spans_of_all_kinds(self):
        whole = parts_of(TEXT)
        size = len(TEXT)
        for text in ("", "0..5", "5..", "..7", "0..1,3..4,..2", "..99", "4..9,6..", "90..99", "0..20", "..1,0..1,9..12"):
            one = cut(whole, stretches(read_spans(text), size))
            rest = cut(whole, lacking([(0, size)], one))
            self.assertEqual(joined(one, rest), whole, text)
            self.assertEqual(joined(rest, one), whole, text)

    def test_pieces_in_any_order_some_twice(self):
        whole = parts_of(TEXT[:10])
        pieces = [cut(whole, stretches(spans, 10)) for spans in
                  ([(0, 3)], [(2, 5), (8, 9)], [(None, 1)], [(6, 7)], [(0, 3)], [(4, 7)])]
        for order in itertools.permutations(pieces):
            parts = []
            backward = []
            for piece in order:
                parts = joined(parts, piece)
                backward = joined(piece, backward)
            self.assertEqual(parts, [(0, TEXT[:7]), (8, TEXT[8:10])])
            self.assertEqual(backward, parts)

    def test_three_pieces_grouped_either_way(self):
        sets = subsets(4)
        for one, two, three in itertools.product(sets, repeat=3):
            first = as_parts({place: "abcd"[place] for place in one})
            second = as_parts({place: "ABCD"[place] for place in two})
            third = as_parts({place: "0123"[place] for place in three})
            self.assertEqual(joined(joined(first, second), third), joined(first, joined(second, third)))

    def test_far_off(self):
        wanted = moved([(0, 3), (5, 9)], FAR)
        parts = moved_parts([(2, "cde")], FAR)
        whole = moved_parts([(0, "abcdefghi")], FAR)
        lacks = lacking(wanted, parts)
        self.assertEqual(lacks, moved([(0, 2), (5, 9)], FAR))
        self.assertEqual(joined(cut(whole, lacks), parts), whole)
        self.assertEqual(joined(parts, cut(whole, lacks)), whole)


if __name__ == "__main__":
    unittest.main()
