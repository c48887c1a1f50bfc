"""Points 18 and 19: answers, and the answer to an ask out of the parts of a text."""

import itertools
import random
import unittest

from pagelodge.asks import Answer, Ask, answered
from pagelodge.settings import Rule
from pagelodge.spans import cut, joined, lacking, parts_of
from tests.samples import FAR, GREATEST, RULE_FIELDS, expected_fields, rule_fields

TEXT = "Some text, of twenty"
SIZE = len(TEXT)
WORDS = ["gone", "same", "whole", "beyond", "part", "written", "changed", "silent", "unkept"]
WHOLE = {"mark": "s4", "size": 20, "parts": [(0, "Some"), (9, ",")], "age": 7, "count": 12, "rule": Rule(keep=3),
         "turns": ["who", "lang"], "tags": ["news", "daily"], "ground": [(1, 0, 5), (0, 3, 2)]}
TOLD = ("part", "s4", 20, ((0, "Some"), (9, ",")), 7, 12, ((1, 0, 5), (0, 3, 2)))


def copied(handed):
    return {name: list(worth) if isinstance(worth, list) else worth for name, worth in handed.items()}


class Made(unittest.TestCase):
    def test_with_nothing_but_a_word(self):
        for word in WORDS:
            answer = Answer(word)
            self.assertEqual((answer.word, answer.mark, answer.size, answer.parts), (word, None, 0, ()))
            self.assertEqual((answer.age, answer.count, answer.turns, answer.tags, answer.ground), (0, 0, (), (), ()))
            self.assertIs(type(answer.rule), Rule)
            self.assertEqual(rule_fields(answer.rule), expected_fields(RULE_FIELDS, {}))
            self.assertEqual(answer.told(), (word, None, 0, (), 0, 0, ()))

    def test_with_all(self):
        for seed in range(30):
            order = list(copied(WHOLE).items())
            random.Random(seed).shuffle(order)
            answer = Answer("part", **dict(order))
            self.assertEqual(answer.told(), TOLD)
            self.assertEqual((answer.word, answer.mark, answer.size, answer.parts, answer.age, answer.count,
                              answer.ground), TOLD)
            self.assertEqual(rule_fields(answer.rule), expected_fields(RULE_FIELDS, {"keep": 3}))
            self.assertEqual((answer.turns, answer.tags), (("who", "lang"), ("news", "daily")))

    def test_with_each_alone(self):
        untold = {"mark": None, "size": 0, "parts": (), "age": 0, "count": 0, "turns": (), "tags": (), "ground": ()}
        for name, worth in WHOLE.items():
            answer = Answer("part", **{name: worth})
            for other, nothing in untold.items():
                expected = nothing if other != name else tuple(worth) if isinstance(worth, list) else worth
                self.assertEqual(getattr(answer, other), expected)
            self.assertEqual(answer.rule.spelled(), "keep 3" if name == "rule" else "")

    def test_no_rule_is_a_rule_of_which_nothing_is_told(self):
        answer = Answer("whole", rule=None)
        self.assertIs(type(answer.rule), Rule)
        self.assertEqual(rule_fields(answer.rule), expected_fields(RULE_FIELDS, {}))

    def test_rows_are_tuples(self):
        for kind in (list, tuple):
            answer = Answer("part", parts=kind([(0, "a"), (5, "b")]), turns=kind("ab"), tags=kind("cd"),
                            ground=kind([(0, 1, 2), (3, 4, 5)]))
            rows = [answer.parts, answer.turns, answer.tags, answer.ground, answer.told(), *answer.parts,
                    *answer.ground, answer.told()[3], answer.told()[6]]
            self.assertEqual({type(row) for row in rows}, {tuple})
            self.assertEqual(answer.told(), ("part", None, 0, ((0, "a"), (5, "b")), 0, 0, ((0, 1, 2), (3, 4, 5))))
            self.assertEqual((answer.turns, answer.tags), (("a", "b"), ("c", "d")))

    def test_parts_and_links_handed_in_as_lists(self):
        answer = Answer("part", parts=[[0, "a"], [5, "b"]], ground=[[0, 1, 2]])
        self.assertEqual((answer.parts, answer.ground), (((0, "a"), (5, "b")), ((0, 1, 2),)))

    def test_all_but_the_word_is_handed_in_by_name(self):
        self.assertRaises(TypeError, Answer)
        self.assertRaises(TypeError, Answer, "part", "s0")

    def test_numbers_of_sixty_figures_and_more(self):
        answer = Answer("part", size=GREATEST, parts=[(FAR, "x")], age=10 ** 70, count=GREATEST,
                        ground=[(0, GREATEST, 10 ** 70)])
        self.assertEqual(answer.told(), ("part", None, GREATEST, ((FAR, "x"),), 10 ** 70, GREATEST,
                                         ((0, GREATEST, 10 ** 70),)))

    def test_what_is_changed_afterwards_changes_nothing(self):
        handed = copied(WHOLE)
        answer = Answer("part", **handed)
        self.assertEqual(handed, WHOLE)
        for row in handed.values():
            if isinstance(row, list):
                row.append("spoiled")
                row.reverse()
        self.assertEqual(answer.told(), TOLD)
        self.assertEqual((answer.turns, answer.tags), (("who", "lang"), ("news", "daily")))

    def test_what_was_told_is_handed_in_again(self):
        word, mark, size, parts, age, count, ground = Answer("part", **WHOLE).told()
        again = Answer(word, mark=mark, size=size, parts=parts, age=age, count=count, ground=ground)
        self.assertEqual(again.told(), TOLD)


class Answered(unittest.TestCase):
    def check(self, ask, mark, size, parts, word, expected):
        for row in (list(parts), tuple(parts)):
            answer = answered(ask, mark, size, row)
            borne = (None, 0) if word == "gone" else (mark, size)
            self.assertEqual(answer.told(), (word, *borne, tuple(expected), 0, 0, ()))
            self.assertIs(type(answer), Answer)

    def test_words_and_parts(self):
        whole = parts_of(TEXT)
        spans = [(0, 4), (None, 6)]
        for ask, mark, word, parts in [
            (Ask("a"), "s3", "whole", whole),
            (Ask("a"), "w3", "whole", whole),
            (Ask("a", spans=spans), "s3", "part", [(0, "Some"), (14, "twenty")]),
            (Ask("a", spans=spans), "w3", "part", [(0, "Some"), (14, "twenty")]),
            (Ask("a", spans=spans, when="s3"), "s3", "part", [(0, "Some"), (14, "twenty")]),
            (Ask("a", spans=spans, when="s3"), "s4", "whole", whole),
            (Ask("a", spans=spans, when="w3"), "w3", "whole", whole),
            (Ask("a", spans=[(20, 30)]), "s3", "beyond", []),
            (Ask("a", spans=[(20, 30)], when="s4"), "s3", "whole", whole),
            (Ask("a", spans=[(19, 30)]), "s3", "part", [(19, "y")]),
            (Ask("a", unless=["s1", "s3"]), "s3", "same", []),
            (Ask("a", unless=["s1", "s3"], spans=spans), "s3", "same", []),
            (Ask("a", unless=["s1", "w3"], spans=spans), "s3", "part", [(0, "Some"), (14, "twenty")]),
        ]:
            with self.subTest(ask.told(), mark=mark):
                self.check(ask, mark, SIZE, whole, word, parts)

    def test_gone(self):
        for ask in (Ask("a"), Ask("a", spans=[(0, 4)], when="s0", unless=["s0", "w0"])):
            self.check(ask, None, 0, [], "gone", [])
            self.check(ask, None, SIZE, parts_of(TEXT), "gone", [])

    def test_a_text_without_signs(self):
        self.check(Ask("a"), "s0", 0, [], "whole", [])
        self.check(Ask("a", spans=[(0, 4), (None, 2)]), "s0", 0, [], "beyond", [])
        self.check(Ask("a", spans=[(0, 4)], when="w0"), "s0", 0, [], "whole", [])
        self.check(Ask("a", unless=["s0"]), "s0", 0, [], "same", [])

    def test_out_of_parts_that_have_just_what_is_wanted_or_more(self):
        wanted = [(0, 4), (9, 12), (14, 15)]
        ask = Ask("a", spans=wanted)
        expected = cut(parts_of(TEXT), wanted)
        others = [[(start, stop)] for start, stop in itertools.combinations(range(0, SIZE + 1, 3), 2)]
        for other in others:
            parts = joined(expected, cut(parts_of(TEXT), other))
            self.assertEqual(lacking(wanted, parts), [])
            self.check(ask, "s3", SIZE, parts, "part", expected)
        self.check(ask, "s3", SIZE, expected, "part", expected)

    def test_with_the_same_mark_nothing_is_needed_of_the_parts(self):
        self.check(Ask("a", spans=[(0, 4)], unless=["w2"]), "w2", SIZE, [], "same", [])
        self.check(Ask("a", spans=[(30, 44)]), "w2", SIZE, [(3, "e")], "beyond", [])

    def test_what_goes_with_it(self):
        rule = Rule(keep=3, own=True)
        asks = {"whole": Ask("a"), "part": Ask("a", spans=[(0, 4)]), "beyond": Ask("a", spans=[(90, None)]),
                "same": Ask("a", unless=["s3"])}
        for word, ask in asks.items():
            answer = answered(ask, "s3", SIZE, parts_of(TEXT), age=7, count=12, rule=rule, turns=["b", "a"],
                              tags=["d", "c"], ground=[(0, 1, 7)])
            self.check_borne(answer, word)
        gone = answered(asks["part"], None, 0, (), age=7, count=12, rule=rule, turns=("b", "a"), tags=("d", "c"),
                        ground=((0, 1, 7),))
        self.check_borne(gone, "gone")
        self.assertEqual((gone.mark, gone.size), (None, 0))

    def check_borne(self, answer, word):
        self.assertEqual(answer.word, word)
        self.assertEqual((answer.age, answer.count, answer.turns, answer.tags, answer.ground),
                         (7, 12, ("b", "a"), ("d", "c"), ((0, 1, 7),)))
        self.assertEqual(rule_fields(answer.rule), expected_fields(RULE_FIELDS, {"keep": 3, "own": True}))

    def test_with_nothing_by_name(self):
        answer = answered(Ask("a"), "s3", SIZE, parts_of(TEXT))
        self.assertEqual((answer.age, answer.count, answer.turns, answer.tags, answer.ground), (0, 0, (), (), ()))
        self.assertEqual(rule_fields(answer.rule), expected_fields(RULE_FIELDS, {}))
        self.assertRaises(TypeError, answered, Ask("a"), "s3", SIZE, parts_of(TEXT), 7)

    def test_nothing_handed_in_is_changed_or_held(self):
        parts, turns, tags, ground = [(0, TEXT)], ["b", "a"], ["d", "c"], [(0, 1, 7)]
        ask = Ask("a", spans=[(0, 4)])
        before = ask.told()
        answer = answered(ask, "s3", SIZE, parts, turns=turns, tags=tags, ground=ground)
        self.assertEqual((parts, turns, tags, ground), ([(0, TEXT)], ["b", "a"], ["d", "c"], [(0, 1, 7)]))
        self.assertEqual(ask.told(), before)
        for row in (parts, turns, tags, ground):
            row.clear()
        self.assertEqual((answer.parts, answer.turns, answer.tags, answer.ground),
                         (((0, "Some"),), ("b", "a"), ("d", "c"), ((0, 1, 7),)))

    def test_far_off(self):
        ask = Ask("a", spans=[(FAR, FAR + 2), (None, 1)])
        parts = [(FAR - 3, "abcdefgh"), (GREATEST - 2, "yz")]
        self.check(ask, "s" + "9" * 60, GREATEST, parts, "part", [(FAR, "de"), (GREATEST - 1, "z")])


if __name__ == "__main__":
    unittest.main()
