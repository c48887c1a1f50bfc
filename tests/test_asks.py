"""Points 17 and 18: asks, how they are made and refused, what they want and the word that answers them."""

import collections
import itertools
import unittest

from pagelodge.asks import Ask
from pagelodge.errors import NoAsk, NoWish, PageError
from pagelodge.settings import Wish
from pagelodge.spans import is_span, stretches
from tests.samples import FAR, GREATEST, WISH_FIELDS, Stubborn, expected_fields, no_texts, wish_fields

WHOLE = {"heads": {"who": "x", "lang": "de", "empty": ""}, "spans": [(5, 9), (0, None), (None, 4)],
         "unless": ["s4", "w0", "s0"], "when": "s3", "wish": "left 2,atmost 0"}
TOLD = ("news/today", (("lang", "de"), ("who", "x")), ((5, 9), (0, None), (None, 4)), ("s4", "w0", "s0"), "s3",
        "atmost 0, left 2")

SPANS = [(0, 1), (0, 2), (3, 9), (0, None), (7, None), (None, 1), (None, 9), (0, GREATEST), (GREATEST, None),
         (None, GREATEST), (FAR, FAR + 1), (GREATEST, 10 ** 70)]
NO_SPANS = [(0, 0), (1, 1), (2, 1), (1, 0), (-1, 1), (-2, -1), (-1, None), (None, 0), (None, -1), (None, None),
            (0, True), (False, 1), (False, True), (False, None), (None, True), (True, 2), (True, None), (), (0,), (1,),
            (None,), (0, 1, 2), (0, 1, None), [0, 1], [0, None], [], {0: 1}, {0, 1}, "0..1", "01", "..1", (0, "1"),
            ("0", "1"), ("0", None), (None, "1"), (0, 1.0), (0.0, 1), (0.5, None), (None, 1.5), ((0, 1),), ((0,), (1,)),
            ([], None), (None, {}), (0, [1]), (Stubborn(), 1), (0, Stubborn()), (Stubborn(), None), (None, Stubborn()),
            range(2), slice(0, 1), b"ab"]
NO_MARKS = ["", "s", "w", "S0", "s01", "x1", "0", "s-1", " s0", "s0 ", "s" + "9" * 61]
NO_PATHS = ["", "/", "a/", "/a", "a//b", "a/b/c/d/e", "A", "abcdefghi", "a b", "a1", "a\n"]


class Made(unittest.TestCase):
    def test_with_nothing_but_a_path(self):
        for path in ("a", "news/today", "a/b/c/d", "/".join(["abcdefgh"] * 4)):
            ask = Ask(path)
            self.assertEqual((ask.path, ask.heads, ask.spans, ask.unless, ask.when), (path, (), (), (), None))
            self.assertIs(type(ask.wish), Wish)
            self.assertEqual(wish_fields(ask.wish), expected_fields(WISH_FIELDS, {}))
            self.assertEqual(ask.told(), (path, (), (), (), None, ""))

    def test_with_all_names_in_any_order(self):
        for order in itertools.permutations(WHOLE.items()):
            ask = Ask("news/today", **dict(order))
            self.assertEqual(ask.told(), TOLD)
            self.assertEqual((ask.path, ask.heads, ask.spans, ask.unless, ask.when), TOLD[:5])
            self.assertEqual(wish_fields(ask.wish), expected_fields(WISH_FIELDS, {"atmost": 0, "left": 2}))

    def test_some_names_left_out(self):
        names = list(WHOLE)
        untold = ((), (), (), None, "")
        for many in range(len(names)):
            for chosen in itertools.combinations(names, many):
                told = [TOLD[1 + at] if name in chosen else untold[at] for at, name in enumerate(names)]
                self.assertEqual(Ask("news/today", **{name: WHOLE[name] for name in chosen}).told(),
                                 ("news/today", *told))

    def test_heads_in_any_order(self):
        for order in itertools.permutations([("b", "1"), ("a", "-"), ("c", ""), ("ab", "x0")]):
            self.assertEqual(Ask("a", heads=dict(order)).heads, (("a", "-"), ("ab", "x0"), ("b", "1")))
        for heads in ({}, None, {"a": ""}, {"a": "", "b": ""}):
            self.assertEqual(Ask("a", heads=heads).heads, ())

    def test_rows_as_lists_and_as_tuples(self):
        for kind in (list, tuple):
            ask = Ask("a", spans=kind([(3, 4), (0, 2), (3, 4)]), unless=kind(["s1", "w0", "s1"]))
            self.assertEqual((ask.spans, ask.unless), (((3, 4), (0, 2), (3, 4)), ("s1", "w0", "s1")))
            self.assertEqual({type(thing) for thing in (ask.spans, ask.unless, ask.heads, ask.told())}, {tuple})
            self.assertEqual({type(span) for span in ask.spans}, {tuple})

    def test_pairs_of_heads_are_tuples(self):
        ask = Ask("a", heads={"a": "x", "b": "y"})
        self.assertEqual([type(thing) for thing in (ask.heads, *ask.heads)], [tuple] * 3)

    def test_sixty_three_things_and_more_that_were_told(self):
        spans = [(2 * at, 2 * at + 1) for at in range(63)]
        marks = [f"s{at}" for at in range(63)]
        heads = {first + second: "x" for first in "abcdefghi" for second in "tuvwxyz"}
        ask = Ask("a", heads=heads, spans=spans, unless=marks)
        self.assertEqual(ask.told(), ("a", tuple(sorted(heads.items())), tuple(spans), tuple(marks), None, ""))
        many = [(2 * at, 2 * at + 1) for at in range(200)]
        self.assertEqual(Ask("a", spans=stretches(many, 500)).spans, tuple(many))

    def test_all_but_the_path_is_handed_in_by_name(self):
        self.assertRaises(TypeError, Ask)
        self.assertRaises(TypeError, Ask, "a", {})

    def test_what_is_changed_afterwards_changes_nothing(self):
        handed = {name: worth.copy() if isinstance(worth, (list, dict)) else worth for name, worth in WHOLE.items()}
        ask = Ask("news/today", **handed)
        self.assertEqual(handed, WHOLE)
        self.assertEqual(list(handed["heads"]), list(WHOLE["heads"]))
        handed["heads"]["lang"] = "fr"
        handed["heads"]["more"] = "x"
        handed["spans"].append((1, 2))
        handed["unless"].clear()
        self.assertEqual(ask.told(), TOLD)
        self.assertEqual(ask.word_for("s4", 20), "same")


class Spans(unittest.TestCase):
    def test_those_that_are(self):
        for span in SPANS:
            self.assertIs(is_span(span), True, span)
            self.assertEqual(Ask("a", spans=[span]).spans, (span,))
        self.assertIs(is_span(collections.namedtuple("Named", "a b")(0, 1)), True)

    def test_those_that_are_not(self):
        for at, thing in enumerate(NO_SPANS + no_texts()):
            with self.subTest(at=at):
                self.assertIs(is_span(thing), False)

    def test_all_small_ones(self):
        ends = [None, -1, 0, 1, 2, 3, True, False]
        for start, stop in itertools.product(ends, repeat=2):
            truths = isinstance(start, bool) or isinstance(stop, bool)
            told = stop is not None and stop >= 1 if start is None else start >= 0 and (stop is None or stop > start)
            self.assertIs(is_span((start, stop)), told and not truths)


class Refused(unittest.TestCase):
    def check(self, why, path="a", **names):
        with self.assertRaises(NoAsk) as caught:
            Ask(path, **names)
        self.assertEqual(caught.exception.why, why)

    def test_paths(self):
        for thing in NO_PATHS + no_texts():
            self.check("path", thing)

    def test_heads(self):
        for thing in no_texts() + ["", "A", "a1", "abcdefghi", "a b"]:
            if thing.__hash__ is not None and not isinstance(thing, Stubborn):
                self.check("heads", heads={thing: "x"})
                self.check("heads", heads={thing: ""})
                self.check("heads", heads={"a": "x", thing: "x", "b": "y"})
        for thing in no_texts() + ["A", "a b", "abcdefghijklm", "a_"]:
            self.check("heads", heads={"a": thing})
            self.check("heads", heads={"a": "x", "b": thing})
            self.check("heads", heads={"b": thing, "a": thing})

    def test_spans(self):
        for thing in NO_SPANS + no_texts():
            for row in ([thing], [(0, 1), thing], [thing, (0, None)], (thing, thing)):
                self.check("spans", spans=row)

    def test_unless(self):
        for thing in NO_MARKS + no_texts():
            for row in ([thing], ["s0", thing], [thing, "w1"], (thing, thing)):
                self.check("unless", unless=row)

    def test_when(self):
        for thing in NO_MARKS + no_texts():
            if thing is not None:
                self.check("when", when=thing)

    def test_wishes(self):
        for wish, at in [("left", 0), ("anew 1", 0), ("left 5,", 1), ("anew,firm,Left 5", 2), ("x  1", 0)]:
            with self.assertRaises(NoWish) as caught:
                Ask("a", wish=wish)
            self.assertEqual(caught.exception.at, at)

    def test_the_first_of_several_causes(self):
        wrong = [("path", "A"), ("heads", {"a": "A"}), ("spans", [(0, True)]), ("unless", ["s"]), ("when", "w01"),
                 ("wish", "anew,left")]
        for many in range(1, 7):
            for chosen in itertools.combinations(wrong, many):
                handed = {"path": "a", **dict(chosen)}
                for order in (list(handed.items()), list(handed.items())[::-1]):
                    with self.subTest(chosen), self.assertRaises(PageError) as caught:
                        Ask(**dict(order))
                    first = chosen[0][0]
                    if first == "wish":
                        self.assertIs(type(caught.exception), NoWish)
                        self.assertEqual(caught.exception.at, 1)
                    else:
                        self.assertIs(type(caught.exception), NoAsk)
                        self.assertEqual(caught.exception.why, first)

    def test_things_of_any_kind_in_all_places(self):
        for thing in no_texts():
            self.check("path", thing, heads={"a": thing}, spans=[thing], unless=[thing], when=thing, wish="left")
            self.check("heads", heads={"a": thing}, spans=[thing], unless=[thing], when=thing, wish="left")
            self.check("spans", spans=[thing], unless=[thing], when=thing, wish="left")
            self.check("unless", unless=[thing], when=thing, wish="left")

    def test_a_refusal_changes_nothing(self):
        heads, spans, unless = {"b": "x", "a": ""}, [(3, 4), (0, 1)], ["s1", "s"]
        self.check("unless", heads=heads, spans=spans, unless=unless)
        self.assertEqual((list(heads.items()), spans, unless),
                         ([("b", "x"), ("a", "")], [(3, 4), (0, 1)], ["s1", "s"]))


def wants_whole(ask, mark):
    """Point 18 by its words."""
    return not ask.spans or (ask.when is not None and (ask.when[0] == "w" or ask.when != mark))


class Wanted(unittest.TestCase):
    def test_no_spans(self):
        for when in (None, "s0", "w0", "s1"):
            for size, wanted in [(0, []), (1, [(0, 1)]), (200, [(0, 200)]), (GREATEST, [(0, GREATEST)])]:
                self.assertEqual(Ask("a", when=when).wanted("s0", size), wanted)
                self.assertEqual(Ask("a", when=when).word_for("s0", size), "whole")

    def test_spans(self):
        for spans, size, wanted in [
            ([(2, 5)], 9, [(2, 5)]),
            ([(2, 5)], 4, [(2, 4)]),
            ([(2, 5)], 2, []),
            ([(2, 5)], 0, []),
            ([(7, 9), (0, 2), (None, 1)], 20, [(0, 2), (7, 9), (19, 20)]),
            ([(4, None), (0, 4)], 9, [(0, 9)]),
            ([(9, None), (12, 30)], 9, []),
            ([(None, 3)], 2, [(0, 2)]),
            ([(None, 3)], 0, []),
            ([(0, None)], 0, []),
            ([(FAR, None)], GREATEST, [(FAR, GREATEST)]),
            ([(GREATEST, 10 ** 70)], 10 ** 65, [(GREATEST, 10 ** 65)]),
        ]:
            for mark in ("s0", "w0"):
                ask = Ask("a", spans=spans)
                self.assertEqual(ask.wanted(mark, size), wanted)
                self.assertEqual(ask.word_for(mark, size), "part" if wanted else "beyond")

    def test_when(self):
        for when, mark, whole in [
            ("s3", "s3", False), ("s3", "s4", True), ("s3", "s33", True), ("s3", "w3", True),
            ("w3", "w3", True), ("w3", "s3", True), ("w3", "w4", True), (None, "s3", False), (None, "w3", False),
        ]:
            ask = Ask("a", spans=[(1, 3)], when=when)
            with self.subTest(when, mark=mark):
                self.assertEqual(ask.wanted(mark, 9), [(0, 9)] if whole else [(1, 3)])
                self.assertEqual(ask.word_for(mark, 9), "whole" if whole else "part")
                self.assertEqual(ask.wanted(mark, 1), [(0, 1)] if whole else [])
                self.assertEqual(ask.word_for(mark, 1), "whole" if whole else "beyond")
                self.assertEqual(ask.wanted(mark, 0), [])
                self.assertEqual(ask.word_for(mark, 0), "whole" if whole else "beyond")

    def test_unless(self):
        for spans, when in itertools.product([[], [(1, 3)], [(50, None)]], [None, "s1", "s2", "w1"]):
            ask = Ask("a", spans=spans, when=when, unless=["w7", "s1", "s12"])
            for mark in ("s1", "w7", "s12"):
                self.assertEqual(ask.word_for(mark, 9), "same")
                self.assertEqual(ask.word_for(mark, 0), "same")
            for mark in ("w1", "s7", "s2", "s0", "s121"):
                self.assertNotEqual(ask.word_for(mark, 9), "same")
            plain = Ask("a", spans=spans, when=when)
            for mark in ("s1", "w7", "s2"):
                self.assertEqual(ask.wanted(mark, 9), plain.wanted(mark, 9))

    def test_gone(self):
        for spans, when, unless in itertools.product([[], [(1, 3)]], [None, "s1", "w1"], [[], ["s0", "w0"]]):
            self.assertEqual(Ask("a", spans=spans, when=when, unless=unless).word_for(None, 0), "gone")

    def test_all_small_ones(self):
        rows = [[], [(0, 1)], [(2, None)], [(None, 1)], [(1, 2), (3, 4)], [(3, 9)]]
        marks = ["s0", "s1", "w0", "w1"]
        for spans, when, unless, mark in itertools.product(rows, [None] + marks, [[], ["s0"], ["w1", "s1"]], marks):
            ask = Ask("a", spans=spans, when=when, unless=unless)
            for size in range(6):
                whole = wants_whole(ask, mark)
                wanted = stretches([] if whole else spans, size)
                word = ("same" if mark in unless else "whole" if whole else "part" if wanted else "beyond")
                self.assertEqual(ask.wanted(mark, size), wanted)
                self.assertEqual(ask.word_for(mark, size), word)

    def test_lists_told_are_new_each_time(self):
        for ask in (Ask("a"), Ask("a", spans=[(1, 3)]), Ask("a", spans=[(90, 99)])):
            told = ask.wanted("s0", 9)
            before = list(told)
            self.assertIs(type(told), list)
            self.assertTrue(all(type(stretch) is tuple for stretch in told))
            told.append("spoiled")
            self.assertEqual(ask.wanted("s0", 9), before)

    def test_heads_and_wish_have_no_say(self):
        ask = Ask("a", spans=[(1, 3)], heads={"a": "x"}, wish="anew, kept, firm, atmost 0")
        self.assertEqual((ask.wanted("s0", 9), ask.word_for("s0", 9)), ([(1, 3)], "part"))


if __name__ == "__main__":
    unittest.main()
