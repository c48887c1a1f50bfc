"""Points 21 and 22: copies, what they bear, what they lack of asks and what is answered from them."""

import itertools
import random
import unittest

from pagelodge.asks import Answer, Ask, answered
from pagelodge.copies import Copy, copy_of
from pagelodge.settings import Rule
from pagelodge.spans import cut, parts_of
from pagelodge.words import heads_row
from tests.samples import FAR, GREATEST, as_parts, as_stretches, subsets

TEXT = "Some text, of twenty"
HEADS = (("lang", "de"), ("who", "me"))
RULE = Rule(keep=4, worn=2, common=True)
WITH_PAGE = {"age": 3, "count": 7, "rule": RULE, "turns": ["who", "form", "lang"], "tags": ["daily", "news"],
             "ground": [(4, 1, 2), (0, 9, 1)]}


def answer_of(word, mark="s1", parts=(), size=20, **more):
    """An answer with a page's word and what goes with it."""
    if word == "gone":
        return Answer(word, **{**WITH_PAGE, **more})
    return Answer(word, mark=mark, size=size, parts=parts, **{**WITH_PAGE, **more})


def copy_with(parts, mark="s1", path="a", size=20, **more):
    return copy_of(path, HEADS, answer_of("part", mark, parts, size), **more)


class Fields(unittest.TestCase):
    def check(self, copy, mark, size, parts):
        self.assertIs(type(copy), Copy)
        self.assertEqual((copy.path, copy.mark, copy.size, copy.parts), ("a/b", mark, size, parts))
        self.assertIs(type(copy.parts), list)
        self.assertEqual({type(part) for part in copy.parts} - {tuple}, set())
        self.assertEqual((copy.turns, copy.worths), (("who", "form", "lang"), ("me", "", "de")))
        self.assertEqual((copy.count, copy.tags), (7, ("daily", "news")))
        self.assertEqual({type(row) for row in (copy.turns, copy.worths, copy.tags)}, {tuple})
        self.assertIs(type(copy.rule), Rule)
        self.assertEqual(copy.rule.spelled(), "keep 4, worn 2, common")

    def test_of_each_word(self):
        for heads in (HEADS, list(HEADS)):
            for kind in (list, tuple):
                whole = answer_of("whole", parts=kind([(0, TEXT)]))
                part = answer_of("part", parts=kind([(0, "So"), (5, "text")]))
                self.check(copy_of("a/b", heads, whole), "s1", 20, [(0, TEXT)])
                self.check(copy_of("a/b", heads, part), "s1", 20, [(0, "So"), (5, "text")])
            self.check(copy_of("a/b", heads, answer_of("beyond")), "s1", 20, [])
            self.check(copy_of("a/b", heads, answer_of("gone")), None, 0, [])

    def test_of_same(self):
        held = copy_of("a/b", (), Answer("part", mark="s3", size=9, parts=[(2, "xy")], turns=["other"], tags=["old"],
                                         count=99, rule=Rule(never=True), age=50))
        self.check(copy_of("a/b", HEADS, answer_of("same", "s3", size=9), held=held), "s3", 9, [(2, "xy")])
        # Its size and parts are those of held, whatever goes with the answer.
        self.check(copy_of("a/b", HEADS, answer_of("same", "s3", size=5), held=held), "s3", 9, [(2, "xy")])

    def test_of_same_with_a_weak_mark(self):
        held = copy_of("a/b", (), Answer("whole", mark="w3", size=2, parts=[(0, "xy")]))
        self.check(copy_of("a/b", HEADS, answer_of("same", "w3", size=2), held=held), "w3", 2, [(0, "xy")])

    def test_without_turns(self):
        copy = copy_of("a", HEADS, Answer("whole", mark="s0", size=1, parts=[(0, "x")]))
        self.assertEqual((copy.turns, copy.worths, copy.tags, copy.count), ((), (), (), 0))
        self.assertEqual(copy.rule.spelled(), "")

    def test_all_that_stands_behind_the_answer_is_handed_in_by_name(self):
        self.assertRaises(TypeError, copy_of, "a", (), Answer("gone"), 1)


class Ages(unittest.TestCase):
    def test_age_and_ground_at_several_clocks(self):
        for since, clock in itertools.product((-50, -1, 0, 7, GREATEST), (0, 1, 30, GREATEST)):
            copy = copy_of("a", (), answer_of("whole", parts=[(0, TEXT)]), lodge=5, errand=8, since=since)
            shown = since + clock
            self.assertEqual(copy.age_at(shown), 3 + clock)
            answer = copy.answer(Ask("a"), shown)
            self.assertEqual((answer.age, answer.ground), (3 + clock, ((5, 8, clock), (4, 1, 2), (0, 9, 1))))
            self.assertEqual(copy.told(shown)[7], 3 + clock)
            self.assertEqual(copy.told(shown)[10], ((5, 8, clock), (4, 1, 2), (0, 9, 1)))

    def test_where_nothing_is_told(self):
        copy = copy_of("a", (), Answer("whole", mark="s0", size=1, parts=[(0, "x")]))
        self.assertEqual((copy.age_at(0), copy.told(0)[10]), (0, ((0, 0, 0),)))
        self.assertEqual((copy.age_at(6), copy.told(6)[10]), (6, ((0, 0, 6),)))

    def test_with_same_they_are_those_of_the_answer(self):
        held = copy_with([(0, "S")], lodge=3, errand=3, since=3)
        copy = copy_of("a", (), answer_of("same"), lodge=1, errand=2, since=10, held=held)
        self.assertEqual((copy.age_at(12), copy.told(12)[10]), (5, ((1, 2, 2), (4, 1, 2), (0, 9, 1))))

    def test_numbers_of_more_than_sixty_figures(self):
        answer = Answer("gone", age=GREATEST, count=GREATEST, ground=[(GREATEST, GREATEST, GREATEST)])
        copy = copy_of("a", (), answer, lodge=GREATEST, errand=GREATEST, since=-GREATEST)
        self.assertEqual(copy.age_at(GREATEST), 3 * GREATEST)
        self.assertEqual(copy.told(GREATEST)[10], ((GREATEST, GREATEST, 2 * GREATEST), (GREATEST,) * 3))
        self.assertEqual(copy.count, GREATEST)


class PutTogether(unittest.TestCase):
    def test_with_held_of_the_same_strong_mark(self):
        held = copy_with([(2, "HELD")])
        for word, parts, expected in [("part", [(0, "own"), (9, "x")], [(0, "ownELD"), (9, "x")]),
                                      ("beyond", [], [(2, "HELD")]), ("whole", [(0, "y" * 20)], [(0, "y" * 20)])]:
            copy = copy_of("a", HEADS, answer_of(word, parts=parts), held=held)
            self.assertEqual((copy.parts, copy.mark, copy.size), (expected, "s1", 20))

    def test_with_held_of_another_mark(self):
        for mark, own in itertools.product(("s2", "w1", "s11"), ("s1",)):
            copy = copy_of("a", HEADS, answer_of("part", own, [(0, "own")]), held=copy_with([(5, "x")], mark))
            self.assertEqual((copy.mark, copy.parts), (own, [(0, "own")]))

    def test_with_others_of_the_same_path_and_mark(self):
        others = [copy_with([(0, "aaaa")]), copy_with([(2, "bbbb")]), copy_with([(4, "cccc"), (15, "c")])]
        for order, expected in [((0, 1, 2), "ooaabbcc"), ((2, 1, 0), "oobbcccc"), ((1, 0, 2), "oobbbbcc"),
                                ((2, 0, 1), "ooaacccc")]:
            row = [others[at] for at in order]
            for kind in (list, tuple):
                copy = copy_of("a", HEADS, answer_of("part", parts=[(0, "oo")]), others=kind(row))
                self.assertEqual(copy.parts, [(0, expected), (15, "c")])

    def test_with_others_of_other_paths_and_marks(self):
        others = [copy_with([(5, "x")], path="a/b"), copy_with([(5, "x")], path="b"), copy_with([(5, "x")], "s10"),
                  copy_with([(5, "x")], "w1"), copy_of("a", HEADS, answer_of("gone")), copy_with([(9, "y")])]
        copy = copy_of("a", HEADS, answer_of("part", parts=[(0, "o")]), others=others)
        self.assertEqual(copy.parts, [(0, "o"), (9, "y")])

    def test_own_first_then_held_then_the_others(self):
        held, others = copy_with([(0, "hhhh")]), [copy_with([(0, "xxxxxx")]), copy_with([(0, "zzzzzzzz")])]
        copy = copy_of("a", HEADS, answer_of("part", parts=[(0, "oo")]), held=held, others=others)
        self.assertEqual(copy.parts, [(0, "oohhxxzz")])
        copy = copy_of("a", HEADS, answer_of("same"), held=held, others=others)
        self.assertEqual(copy.parts, [(0, "hhhhxxzz")])

    def test_with_a_weak_mark_nothing_is_put_together(self):
        held, others = copy_with([(0, "hhhh")], "w1"), [copy_with([(0, "xxxxxx")], "w1")]
        copy = copy_of("a", HEADS, answer_of("part", "w1", [(0, "oo")]), held=held, others=others)
        self.assertEqual(copy.parts, [(0, "oo")])
        copy = copy_of("a", HEADS, answer_of("beyond", "w1"), held=held, others=others)
        self.assertEqual(copy.parts, [])
        copy = copy_of("a", HEADS, answer_of("same", "w1"), held=held, others=others)
        self.assertEqual(copy.parts, [(0, "hhhh")])

    def test_a_page_that_is_gone(self):
        gone = copy_of("a", HEADS, answer_of("gone"))
        copy = copy_of("a", HEADS, answer_of("gone"), held=copy_with([(0, "h")]), others=[gone, copy_with([(0, "h")])])
        self.assertEqual((copy.mark, copy.size, copy.parts), (None, 0, []))

    def test_nothing_but_parts_is_taken(self):
        other = Answer("part", mark="s1", size=77, parts=[(0, "x"), (30, "y")], age=900, count=800,
                       rule=Rule(never=True), turns=["z"], tags=["zz"], ground=[(7, 7, 7)])
        row = [copy_of("a", (("z", "q"),), other, lodge=70, errand=71, since=-72) for at in range(3)]
        bare = copy_of("a", HEADS, answer_of("part", parts=[(5, "t")]), lodge=1, errand=2, since=3)
        copy = copy_of("a", HEADS, answer_of("part", parts=[(5, "t")]), lodge=1, errand=2, since=3, held=row[0],
                       others=row[1:])
        told, expected = list(copy.told(10)), list(bare.told(10))
        self.assertEqual(told[5], ((0, "x"), (5, "t"), (30, "y")))
        del told[5], expected[5]
        self.assertEqual(told, expected)

    def test_drawn_rows_against_places(self):
        for seed in range(200):
            chance = random.Random(seed)
            places = [{place: chance.choice("abc") for place in range(12) if chance.random() < 0.4} for at in range(5)]
            own, asked, *others = places
            mark = chance.choice(["s1", "w1"])
            marks = [chance.choice(["s1", "s2", "w1"]) for at in range(4)]
            held = copy_with(as_parts(asked), marks[0])
            row = [copy_with(as_parts(other), each, chance.choice(["a", "b"])) for other,
                   each in zip(others, marks[1:])]
            expected = dict(own)
            for copy in [held] * (mark == "s1") + row * (mark == "s1"):
                if copy.mark == "s1" and copy.path == "a":
                    for start, signs in copy.parts:
                        for at, sign in enumerate(signs):
                            expected.setdefault(start + at, sign)
            made = copy_of("a", HEADS, answer_of("part", mark, as_parts(own)), held=held, others=row)
            self.assertEqual(made.parts, as_parts(expected), seed)


class Handing(unittest.TestCase):
    def test_nothing_handed_in_is_changed_or_shared(self):
        held, others = copy_with([(0, "hh")]), [copy_with([(4, "xx")])]
        heads = [("lang", "de")]
        answer = answer_of("part", parts=[(2, "o")])
        before = [held.told(9), others[0].told(9), answer.told(), answer.turns, answer.tags]
        copy = copy_of("a", heads, answer, held=held, others=others)
        told = copy.told(9)
        self.assertEqual([held.told(9), others[0].told(9), answer.told(), answer.turns, answer.tags], before)
        self.assertEqual((heads, len(others)), ([("lang", "de")], 1))
        heads.clear()
        others.clear()
        held.parts.clear()
        self.assertEqual(copy.told(9), told)

    def test_the_parts_are_the_copys_own_list(self):
        held = copy_with([(0, "hh")], "w1")
        for copy in (copy_of("a", HEADS, answer_of("same", "w1"), held=held),
                     copy_of("a", HEADS, answer_of("same", "w1"), held=held)):
            self.assertIsNot(copy.parts, held.parts)
            copy.parts.append((9, "z"))
        self.assertEqual(held.parts, [(0, "hh")])

    def test_lists_that_are_told_are_new_ones(self):
        copy = copy_with([(0, "S")])
        copy.lacks(Ask("a")).clear()
        self.assertEqual(copy.lacks(Ask("a")), [(1, 20)])
        gone = copy_of("a", (), Answer("gone"))
        gone.lacks(Ask("a")).append((0, 1))
        self.assertEqual(gone.lacks(Ask("a")), [])


class Fitting(unittest.TestCase):
    def test_heads(self):
        copy = copy_with([(0, "S")])
        for heads, fits in [({"lang": "de", "who": "me"}, True), ({"lang": "de", "who": "me", "other": "x"}, True),
                            ({"lang": "de", "who": "me", "form": ""}, True), ({"lang": "de"}, False), ({}, False),
                            ({"lang": "de", "who": "me", "form": "x"}, False), ({"lang": "me", "who": "de"}, False),
                            ({"lang": "en", "who": "me"}, False), ({"lang": "de", "who": "m"}, False)]:
            self.assertIs(copy.fits(heads_row(heads)), fits)
            self.assertIs(copy.fits(list(heads_row(heads))), fits)

    def test_without_turns_it_fits_all(self):
        copy = copy_of("a", HEADS, Answer("gone"))
        for heads in ((), HEADS, [("x", "y")]):
            self.assertIs(copy.fits(heads), True)

    def test_all_worths_of_two_turns(self):
        rows = [heads_row(dict(zip("ab", worths))) for worths in itertools.product(("", "x", "y"), repeat=2)]
        for one, other in itertools.product(rows, repeat=2):
            copy = copy_of("p", one, Answer("gone", turns=["b", "a"]))
            self.assertIs(copy.fits(other), one == other)


class Newer(unittest.TestCase):
    def test_by_count_and_age(self):
        for clock in (-5, 0, 100):
            copies = {}
            for count, age, waited in itertools.product((0, 1, 9), (0, 1, 4), (0, 1, 4)):
                copies[count, age, waited] = copy_of("a", (), Answer("gone", count=count, age=age),
                                                     since=clock - waited)
            for (one, first), (other, second) in itertools.product(copies.items(), repeat=2):
                newer = one[0] > other[0] or (one[0] == other[0] and one[1] + one[2] < other[1] + other[2])
                for later in (clock, clock + 1, clock + 70):
                    self.assertIs(first.newer(second, later), newer)

    def test_what_else_it_bears_does_not_count(self):
        one = copy_with([(0, "abc")], "s9", path="z", lodge=9, errand=9)
        other = copy_with([], "s0", lodge=0, errand=0)
        self.assertIs(one.newer(other, 5), False)
        self.assertIs(other.newer(one, 5), False)


class Lacking(unittest.TestCase):
    def test_spans(self):
        copy = copy_with([(0, "Some"), (8, "t, o")])
        for spans, lacks in [((), [(4, 8), (12, 20)]), ([(0, 4)], []), ([(0, 5)], [(4, 5)]), ([(8, 12), (1, 2)], []),
                             ([(None, 9)], [(12, 20)]), ([(10, None)], [(12, 20)]), ([(20, None), (25, 30)], []),
                             ([(3, 9), (11, 13)], [(4, 8), (12, 13)]), ([(None, FAR)], [(4, 8), (12, 20)]),
                             ([(0, FAR)], [(4, 8), (12, 20)])]:
            for kind in (list, tuple):
                self.assertEqual(copy.lacks(Ask("a", spans=kind(spans))), lacks)

    def test_when(self):
        copy = copy_with([(0, "Some")])
        for when, lacks in [(None, []), ("s1", []), ("s2", [(4, 20)]), ("w1", [(4, 20)])]:
            self.assertEqual(copy.lacks(Ask("a", spans=[(0, 4)], when=when)), lacks)
        weak = copy_with([(0, "Some")], "w1")
        for when, lacks in [(None, []), ("s1", [(4, 20)]), ("w1", [(4, 20)])]:
            self.assertEqual(weak.lacks(Ask("a", spans=[(0, 4)], when=when)), lacks)

    def test_unless(self):
        copy = copy_with([(0, "Some")])
        for unless, lacks in [(["s1"], []), (["s2"], [(4, 20)]), (["w1"], [(4, 20)]), (["s2", "w3", "s1"], [])]:
            self.assertEqual(copy.lacks(Ask("a", unless=unless)), lacks)
            self.assertEqual(copy.lacks(Ask("a", unless=unless, spans=[(4, None)])), lacks)
        self.assertEqual(copy.lacks(Ask("a", unless=["s1"], when="s5", spans=[(9, 10)])), [])

    def test_gone(self):
        gone = copy_of("a", (), answer_of("gone"))
        for ask in (Ask("a"), Ask("a", spans=[(0, 5)]), Ask("a", unless=["s1"]), Ask("a", spans=[(2, 3)], when="s1")):
            self.assertEqual(gone.lacks(ask), [])

    def test_a_text_without_signs(self):
        copy = copy_with([], size=0)
        for ask in (Ask("a"), Ask("a", spans=[(0, 5)]), Ask("a", spans=[(None, 5)])):
            self.assertEqual(copy.lacks(ask), [])

    def test_far_off(self):
        copy = copy_with([(FAR, "abc")], size=GREATEST)
        self.assertEqual(copy.lacks(Ask("a", spans=[(FAR, FAR + 3)])), [])
        self.assertEqual(copy.lacks(Ask("a")), [(0, FAR), (FAR + 3, GREATEST)])

    def test_all_small_cases(self):
        for known, wanted in itertools.product(subsets(5), repeat=2):
            copy = copy_with(as_parts({place: TEXT[place] for place in known}), size=5)
            ask = Ask("a", spans=as_stretches(wanted))
            places = wanted or set(range(5))
            self.assertEqual(copy.lacks(ask), as_stretches(places - known))
            if places <= known:
                expected = as_parts({place: TEXT[place] for place in places})
                self.assertEqual(copy.answer(ask, 0).parts, tuple(expected))


class Answered(unittest.TestCase):
    def check(self, copy, ask, clock, told):
        answer = copy.answer(ask, clock)
        self.assertIs(type(answer), Answer)
        self.assertEqual(answer.told(), told)
        self.assertEqual((answer.turns, answer.tags), (("who", "form", "lang"), ("daily", "news")))
        self.assertEqual(answer.rule.spelled(), "keep 4, worn 2, common")
        self.assertEqual({type(row) for row in (answer.parts, answer.ground, *answer.parts, *answer.ground)}, {tuple})

    def test_of_each_word(self):
        links = ((4, 1, 2), (0, 9, 1))
        copy = copy_with([(0, "Some"), (8, "t, o")], lodge=2, errand=5, since=10)
        self.check(copy, Ask("a", spans=[(1, 3), (9, 11)]), 10,
                   ("part", "s1", 20, ((1, "om"), (9, ", ")), 3, 7, ((2, 5, 0),) + links))
        self.check(copy, Ask("a", spans=[(30, 40)]), 11, ("beyond", "s1", 20, (), 4, 7, ((2, 5, 1),) + links))
        self.check(copy, Ask("a", unless=["s0", "s1"]), 12, ("same", "s1", 20, (), 5, 7, ((2, 5, 2),) + links))
        whole = copy_with([(0, TEXT)], lodge=2, errand=5, since=10)
        self.check(whole, Ask("a"), 13, ("whole", "s1", 20, ((0, TEXT),), 6, 7, ((2, 5, 3),) + links))
        self.check(whole, Ask("a", spans=[(0, 1)], when="s7"), 13,
                   ("whole", "s1", 20, ((0, TEXT),), 6, 7, ((2, 5, 3),) + links))
        self.check(whole, Ask("a", spans=[(0, 1)], when="s1"), 13,
                   ("part", "s1", 20, ((0, "S"),), 6, 7, ((2, 5, 3),) + links))
        gone = copy_of("a", HEADS, answer_of("gone"), lodge=2, errand=5, since=10)
        self.check(gone, Ask("a", spans=[(0, 1)], unless=["s1"]), 14,
                   ("gone", None, 0, (), 7, 7, ((2, 5, 4),) + links))

    def test_as_answered_out_of_the_whole_text(self):
        whole = parts_of(TEXT)
        for spans, unless, when in itertools.product(((), [(0, 4)], [(2, 6), (None, 3)], [(50, 60)]),
                                                     ((), ["s1"], ["s2"]), (None, "s1", "s2", "w1")):
            ask = Ask("a", spans=spans, unless=unless, when=when)
            copy = copy_with(cut(whole, ask.wanted("s1", 20)), since=5)
            self.assertEqual(copy.lacks(ask), [])
            expected = answered(ask, "s1", 20, whole, age=3, count=7).told()
            self.assertEqual(copy.answer(ask, 5).told()[:6], expected[:6])


class Told(unittest.TestCase):
    def test_as_the_tuple(self):
        copy = copy_of("a/b", HEADS, answer_of("part", parts=[(0, "So"), (5, "text")]), lodge=6, errand=8, since=-4)
        told = copy.told(1)
        self.assertEqual(told, ("a/b", ("who", "form", "lang"), ("me", "", "de"), "s1", 20, ((0, "So"), (5, "text")), 7,
                                8, "keep 4, worn 2, common", ("daily", "news"), ((6, 8, 5), (4, 1, 2), (0, 9, 1))))
        self.assertEqual({type(row) for row in (told, told[1], told[2], told[5], told[9], told[10], *told[5],
                                                *told[10])}, {tuple})

    def test_gone(self):
        copy = copy_of("a", (), Answer("gone"))
        self.assertEqual(copy.told(0), ("a", (), (), None, 0, (), 0, 0, "", (), ((0, 0, 0),)))


if __name__ == "__main__":
    unittest.main()
