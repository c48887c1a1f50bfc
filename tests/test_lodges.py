"""Points 25 to 28: what lodges may keep, what they do when they are asked, and what their errands ask for."""

import itertools
import unittest

from pagelodge.asks import Answer, Ask
from pagelodge.lodges import Door, Lodge, OwnLodge
from pagelodge.pages import Page
from pagelodge.settings import Rule
from pagelodge.source import Source
from tests.samples import GREATEST, fetched, plain, who

TEXT = "Some text, of twenty"
UNKEPT = ("unkept", None, 0, (), 0, 0, ())
CLASSES = (Lodge, OwnLodge, Door)


def source_with(rule="keep 5, worn 3, alone 9", path="a", text=TEXT, **more):
    """A source with one page."""
    source = Source()
    source.write(path, Page(text, rule=rule, **more))
    return source


def lodge_with(source, *asks, lodge=None):
    """A lodge that has asked for these."""
    made = Lodge(0) if lodge is None else lodge
    fetched(made, source, asks)
    return made


class Kinds(unittest.TestCase):
    def test_each_is_a_lodge(self):
        for made in CLASSES:
            self.assertTrue(issubclass(made, Lodge))
            lodge = made(3, room=4, clock=-5)
            self.assertEqual((lodge.clock, lodge.copies(), lodge.floors(), lodge.errands()), (-5, [], [], []))
            self.assertEqual(made(3).clock, 0)
            self.assertRaises(TypeError, made, 3, 4)

    def test_may_keep(self):
        for never, own, common, kept_by in [
                (False, False, False, "so"), (False, False, True, "sow"), (False, True, False, "o"),
                (False, True, True, "o"), (True, False, False, ""), (True, False, True, ""), (True, True, False, ""),
                (True, True, True, "")]:
            rule = Rule(never=never, own=own, common=common, keep=9)
            for word in ("whole", "part", "beyond", "same", "gone"):
                answer = Answer(word, rule=rule)
                for heads, told in [(None, False), ({}, False), ({"who": ""}, False), ({"who": "me"}, True),
                                    ({"who": "0"}, True), ({"lang": "me"}, False), ({"lang": "x", "who": "-"}, True)]:
                    ask = Ask("a", heads=heads)
                    shared = ("w" in kept_by) if told and "s" in kept_by else "s" in kept_by
                    self.assertIs(Lodge(0).may_keep(ask, answer), shared)
                    self.assertIs(OwnLodge(0).may_keep(ask, answer), "o" in kept_by)
                    self.assertIs(Door(0).may_keep(ask, answer), False)

    def test_other_words_of_a_rule_do_not_count(self):
        answer = Answer("whole", rule=Rule(anew=True, strict=True))
        self.assertIs(Lodge(0).may_keep(Ask("a", wish="anew, kept"), answer), True)

    def test_what_may_not_be_kept_is_not_kept(self):
        for rule, heads, kept in [("never", {}, ""), ("own", {}, "o"), ("", {"who": "me"}, "o"),
                                  ("common", {"who": "me"}, "so"), ("", {}, "so"), ("own, common", {}, "o")]:
            source = source_with(rule)
            for lodge, letter in [(Lodge(0), "s"), (OwnLodge(0), "o"), (Door(0), "d")]:
                told = fetched(lodge, source, [Ask("a", heads=heads)])
                self.assertEqual(plain(told)[0][2][:4], ("whole", "s0", 20, ((0, TEXT),)))
                self.assertEqual(len(lodge.copies()), 1 if letter in kept else 0)


class Clocks(unittest.TestCase):
    def test_waiting(self):
        for start in (-7, 0, GREATEST):
            lodge = Lodge(0, clock=start)
            for ticks in (0, 1, 5, GREATEST):
                before = lodge.clock
                lodge.wait(ticks)
                self.assertEqual(lodge.clock, before + ticks)


class Errands(unittest.TestCase):
    def test_numbered_from_nought_and_none_twice(self):
        lodge, page = Lodge(4), Page("x")
        numbers = [lodge.asked(who(0), Ask("a"))[0][1], lodge.writes(who(1), "a", page)[0][1],
                   lodge.asked(who(2), Ask("b"))[0][1]]
        lodge.came(1, Answer("written", count=1))
        lodge.give_up(2)
        numbers.append(lodge.asked(who(3), Ask("b"))[0][1])
        lodge.fall()
        numbers += [lodge.asked(who(4), Ask("a"))[0][1], lodge.writes(who(5), "a", page)[0][1]]
        lodge.fall()
        lodge.fall()
        numbers.append(lodge.asked(who(6), Ask("a"))[0][1])
        self.assertEqual(numbers, list(range(7)))
        self.assertEqual(lodge.errands(), [(6, "ask", "a", 0, (who(6),))])

    def test_those_that_are_out(self):
        lodge = Lodge(0, clock=-3)
        lodge.asked(who(0), Ask("a/b"))
        lodge.wait(5)
        lodge.writes(("lodge", 3, 8), "c", Page("x"))
        lodge.asked(("lodge", 1, 2), Ask("a/b"))
        lodge.wait(1)
        lodge.asked(who(2), Ask("a/b", spans=[(0, 1)]))
        out = [(0, "ask", "a/b", -3, (who(0), ("lodge", 1, 2))), (1, "write", "c", 2, (("lodge", 3, 8),)),
               (2, "ask", "a/b", 3, (who(2),))]
        self.assertEqual(lodge.errands(), out)
        self.assertEqual({type(row) for row in lodge.errands() + [row[4] for row in lodge.errands()]}, {tuple})
        lodge.errands().clear()
        self.assertEqual(lodge.errands(), out)
        lodge.give_up(1)
        self.assertEqual(lodge.errands(), [out[0], out[2]])

    def test_asks_that_are_alike(self):
        plain_ask = {"path": "a", "heads": {"lang": "x"}, "spans": [(0, 5), (7, None)], "when": "s4"}
        alike = [{"unless": ["s1"]}, {"wish": "anew"}, {"wish": "atmost 9, firm, left 3, worn 2"},
                 {"unless": ["s1", "w0"], "wish": "firm"}, {"heads": {"lang": "x", "who": ""}}]
        other = [{"path": "a/a"}, {"heads": {"lang": "y"}}, {"heads": None}, {"heads": {"lang": "x", "z": "x"}},
                 {"spans": [(0, 5)]}, {"spans": [(7, None), (0, 5)]}, {"spans": []}, {"when": "s5"}, {"when": None}]
        for changed, is_alike in [(each, True) for each in alike] + [(each, False) for each in other]:
            lodge = Lodge(0)
            first, second = dict(plain_ask), {**plain_ask, **changed}
            lodge.asked(who(0), Ask(first.pop("path"), **first))
            deeds = lodge.asked(who(1), Ask(second.pop("path"), **second))
            self.assertEqual(deeds == [], is_alike, changed)
            self.assertEqual([row[4] for row in lodge.errands()],
                             [(who(0), who(1))] if is_alike else [(who(0),), (who(1),)])

    def test_a_writing_is_alike_to_nothing(self):
        lodge = Lodge(0)
        lodge.writes(who(0), "a", Page("x"))
        self.assertEqual([deed[:2] for deed in lodge.asked(who(1), Ask("a"))], [("asks", 1)])
        self.assertEqual([deed[:2] for deed in lodge.writes(who(2), "a", Page("x"))], [("writes", 2)])


class Asked(unittest.TestCase):
    def test_kinds_of_what_is_told(self):
        lodge, page = Lodge(0), Page("x")
        asked, someone = Ask("a"), who(0)
        begun = lodge.asked(someone, asked)
        self.assertEqual((type(begun), type(begun[0]), type(begun[0][2])), (list, tuple, Ask))
        told = lodge.came(0, Source().answer(begun[0][2]))
        self.assertEqual((type(told), type(told[0]), type(told[0][2])), (list, tuple, Answer))
        self.assertIs(told[0][1], someone)
        writes = lodge.writes(someone, "a", page)
        self.assertEqual((type(writes), type(writes[0])), (list, tuple))
        self.assertIs(writes[0][3], page)

    def test_with_nothing_on_the_shelf(self):
        lodge = Lodge(0)
        self.assertEqual(plain(lodge.asked(who(7), Ask("a"))), [("asks", 0, ("a", (), (), (), None, "firm"), 0)])
        self.assertEqual(lodge.errands(), [(0, "ask", "a", 0, (who(7),))])

    def test_unkept(self):
        lodge = lodge_with(source_with(), Ask("a", spans=[(0, 4)]))
        lodge.wait(5)
        for ask in (Ask("b", wish="kept"), Ask("a", wish="kept"), Ask("a", spans=[(0, 4)], wish="kept, firm"),
                    Ask("a", spans=[(0, 5)], wish="worn 9, kept"), Ask("a", spans=[(0, 4)], wish="kept, anew")):
            self.assertEqual(plain(lodge.asked(who(1), ask)), [("told", who(1), UNKEPT)])
        lodge.asked(who(2), Ask("b"))
        self.assertEqual(plain(lodge.asked(who(3), Ask("b", wish="kept"))), [("told", who(3), UNKEPT)])
        self.assertEqual(lodge.errands(), [(1, "ask", "b", 5, (who(2),))])

    def test_served(self):
        lodge = lodge_with(source_with(), Ask("a"), lodge=Lodge(6, clock=10))
        for waited in range(5):
            for ask, word, parts in [
                    (Ask("a"), "whole", ((0, TEXT),)), (Ask("a", spans=[(2, 4)]), "part", ((2, "me"),)),
                    (Ask("a", unless=["s0"]), "same", ()), (Ask("a", spans=[(44, 45)]), "beyond", ()),
                    (Ask("a", heads={"lang": "x"}, wish="kept"), "whole", ((0, TEXT),))]:
                self.assertEqual(plain(lodge.asked(who(waited), ask)),
                                 [("told", who(waited), (word, "s0", 20, parts, waited, 1, ((6, 0, waited),)))])
            lodge.wait(1)
        self.assertEqual(lodge.errands(), [])

    def test_where_a_copy_may_not_be_served(self):
        for waited, wish, is_served in [
                (4, "", True), (4, "left 1", False), (3, "left 1", True), (4, "atmost 3", False),
                (4, "atmost 4", True), (0, "anew", False), (5, "firm", False), (4, "firm", True),
                (7, "", True), (8, "", False), (8, "worn 4", True), (9, "worn 4", False)]:
            lodge = lodge_with(source_with(), Ask("a"))
            lodge.wait(waited)
            deeds = lodge.asked(who(1), Ask("a", wish=wish))
            self.assertEqual(deeds[0][0] == "told", is_served, (waited, wish))

    def test_by_the_copys_rule(self):
        for rule, waited, is_served in [
                ("", 0, False), ("keep 1", 0, True), ("keep 1", 1, False), ("anew, keep 9", 0, False),
                ("keep 1, worn 2", 2, True), ("keep 1, worn 2, strict", 2, False), ("keep 1, alone 9", 1, False)]:
            lodge = lodge_with(source_with(rule), Ask("a"))
            lodge.wait(waited)
            self.assertEqual(lodge.asked(who(1), Ask("a"))[0][0] == "told", is_served, (rule, waited))

    def test_where_a_copy_lacks_something(self):
        lodge = lodge_with(source_with(), Ask("a", spans=[(0, 4)]))
        self.assertEqual(lodge.asked(who(1), Ask("a", spans=[(0, 5)]))[0][0], "asks")
        self.assertEqual(lodge.asked(who(1), Ask("a", spans=[(0, 4)]))[0][0], "told")

    def test_a_page_that_is_gone_is_served(self):
        source = Source()
        source.write("a", Page(None, rule="keep 3"))
        lodge = lodge_with(source, Ask("a"))
        self.assertEqual(plain(lodge.asked(who(1), Ask("a", unless=["s0"]))),
                         [("told", who(1), ("gone", None, 0, (), 0, 1, ((0, 0, 0),)))])

    def test_what_is_served_comes_last_in_the_row(self):
        source = source_with()
        for path in "bc":
            source.write(path, Page(path, rule="keep 5"))
        lodge = lodge_with(source, Ask("a"), Ask("b"), Ask("c"))
        for path, row in [("a", "bca"), ("c", "bac"), ("c", "bac"), ("b", "acb")]:
            lodge.asked(who(0), Ask(path))
            self.assertEqual([copy[0] for copy in lodge.copies()], list(row))
        for ask in (Ask("a", wish="anew"), Ask("a", wish="kept, anew"), Ask("c", wish="left 9")):
            lodge.asked(who(0), ask)
            self.assertEqual([copy[0] for copy in lodge.copies()], list("acb"))

    def test_only_the_newest_that_fits_is_looked_at(self):
        lodge = Lodge(0)
        old = Answer("whole", mark="s0", size=1, parts=[(0, "x")], rule=Rule(keep=99), turns=["lang"], count=1)
        new = Answer("part", mark="s1", size=9, parts=[(0, "y")], rule=Rule(keep=99), turns=["who"], count=2)
        lodge.asked(who(0), Ask("a"))
        lodge.came(0, old)
        lodge.asked(who(0), Ask("a", heads={"lang": "x"}, spans=[(0, 1)]))
        lodge.came(1, new)
        self.assertEqual([copy[6] for copy in lodge.copies()], [1, 2])
        self.assertEqual(plain(lodge.asked(who(1), Ask("a", spans=[(0, 1)])))[0][2][1], "s1")
        self.assertEqual(lodge.asked(who(1), Ask("a"))[0][0], "asks")

    def test_the_least_is_told_to_the_shelf_first(self):
        source = source_with()
        source.write("b", Page("y", rule="keep 9"))
        lodge = lodge_with(source, Ask("a"), Ask("b"))
        self.assertEqual([copy[6] for copy in lodge.copies()], [2, 2])
        self.assertEqual(lodge.asked(who(1), Ask("a"), least=2)[0][0], "told")
        self.assertEqual(lodge.floors(), [("path", "a", 2)])
        deeds = lodge.asked(who(1), Ask("a", wish="kept"), least=3)
        self.assertEqual(plain(deeds), [("told", who(1), UNKEPT)])
        self.assertEqual((lodge.floors(), len(lodge.copies())), ([("path", "a", 3)], 1))
        self.assertEqual(lodge.asked(who(1), Ask("b"), least=1)[0][0], "told")
        self.assertEqual(lodge.floors(), [("path", "a", 3), ("path", "b", 1)])
        self.assertRaises(TypeError, lodge.asked, who(1), Ask("a"), 3)


class Worn(unittest.TestCase):
    def worn_lodge(self, waited=5):
        lodge = lodge_with(source_with(), Ask("a"), lodge=Lodge(2))
        lodge.wait(waited)
        return lodge

    def test_an_errand_is_begun_for_which_nobody_waits(self):
        for waited in (5, 6, 7):
            lodge = self.worn_lodge(waited)
            told = ("whole", "s0", 20, ((0, TEXT),), waited, 1, ((2, 0, waited),))
            self.assertEqual(plain(lodge.asked(who(1), Ask("a"))),
                             [("told", who(1), told), ("asks", 1, ("a", (), (), ("s0",), None, "firm"), 0)])
            self.assertEqual(lodge.errands(), [(1, "ask", "a", waited, ())])
            self.assertEqual(plain(lodge.asked(who(2), Ask("a"))), [("told", who(2), told)])
            self.assertEqual(lodge.errands(), [(1, "ask", "a", waited, ())])

    def test_none_where_it_is_fresh_or_let(self):
        for waited, wish in [(4, ""), (5, "worn 1"), (7, "worn 3"), (4, "worn 9")]:
            lodge = self.worn_lodge(waited)
            self.assertEqual([deed[0] for deed in lodge.asked(who(1), Ask("a", wish=wish))], ["told"])
            self.assertEqual(lodge.errands(), [])

    def test_none_where_the_wish_has_kept(self):
        lodge = self.worn_lodge()
        self.assertEqual([deed[0] for deed in lodge.asked(who(1), Ask("a", wish="kept"))], ["told"])
        self.assertEqual(lodge.errands(), [])

    def test_none_where_one_for_an_ask_alike_is_out(self):
        lodge = self.worn_lodge()
        lodge.asked(who(1), Ask("a", wish="anew"))
        self.assertEqual([deed[0] for deed in lodge.asked(who(2), Ask("a"))], ["told"])
        self.assertEqual(lodge.errands(), [(1, "ask", "a", 5, (who(1),))])
        # One for other stretches is not alike.
        self.assertEqual([deed[0] for deed in lodge.asked(who(2), Ask("a", spans=[(0, 3)]))], ["told", "asks"])
        self.assertEqual([row[4] for row in lodge.errands()], [(who(1),), ()])

    def test_who_asks_meanwhile_waits_for_it(self):
        lodge = self.worn_lodge()
        lodge.asked(who(1), Ask("a"))
        self.assertEqual(lodge.asked(who(2), Ask("a", wish="firm")), [])
        self.assertEqual(lodge.asked(who(3), Ask("a", wish="anew")), [])
        self.assertEqual(lodge.errands(), [(1, "ask", "a", 5, (who(2), who(3)))])

    def test_it_comes_last_in_the_row(self):
        source = source_with()
        source.write("b", Page("y"))
        lodge = lodge_with(source, Ask("a"), Ask("b"))
        lodge.wait(5)
        lodge.asked(who(1), Ask("a"))
        self.assertEqual([copy[0] for copy in lodge.copies()], ["b", "a"])


class Above(unittest.TestCase):
    """Point 28, by what goes to the one above."""

    def check(self, lodge, ask, told, least=0):
        deeds = plain(lodge.asked(who(1), ask))
        self.assertEqual([deed[2:] for deed in deeds if deed[0] == "asks"], [(told, least)])

    def test_held_is_none(self):
        self.check(Lodge(0), Ask("a/b"), ("a/b", (), (), (), None, "firm"))
        ask = Ask("a", heads={"lang": "x", "who": "", "b": "y"}, spans=[(5, None), (0, 2)], when="s3",
                  unless=["s1", "w2"])
        self.check(Lodge(0), ask, ("a", (("b", "y"), ("lang", "x")), ((5, None), (0, 2)), (), "s3", "firm"))

    def test_the_wish(self):
        for wish, above in [("", "firm"), ("atmost 7", "atmost 7, firm"), ("atmost 0", "atmost 0, firm"),
                            ("left 3", "left 3, firm"), ("anew", "anew, firm"), ("worn 9", "firm"), ("firm", "firm"),
                            ("atmost 9, left 2, worn 4, anew, firm", "atmost 9, left 2, anew, firm"),
                            (f"atmost {GREATEST}, left {GREATEST}", f"atmost {GREATEST}, left {GREATEST}, firm")]:
            self.check(Lodge(0), Ask("a", wish=wish), ("a", (), (), (), None, above))

    def test_held_lacks_nothing(self):
        for weak, mark in [(False, "s0"), (True, "w0")]:
            for spans, when in [((), None), (((0, 4),), None), (((2, 3), (0, 1)), "s0"), (((2, 3),), "s9"),
                                (((90, 91),), None), (((2, 3),), "w0")]:
                lodge = lodge_with(source_with("", weak=weak), Ask("a"))
                ask = Ask("a", heads={"x": "y"}, spans=spans, when=when, unless=["s5"], wish="left 1")
                self.check(lodge, ask, ("a", (("x", "y"),), spans, (mark,), when, "left 1, firm"))

    def test_held_lacks_nothing_as_the_asker_has_it(self):
        for weak, mark in [(False, "s0"), (True, "w0")]:
            lodge = lodge_with(source_with("", weak=weak), Ask("a", spans=[(0, 4)]))
            ask = Ask("a", spans=[(6, 9)], when="s2", unless=["s7", mark, "s8"])
            self.check(lodge, ask, ("a", (), ((6, 9),), (mark,), "s2", "firm"))

    def test_held_with_a_strong_mark_lacks_something(self):
        for spans, when, lacks in [((), None, ((4, 8), (10, 20))), ([(0, 5)], None, ((4, 5),)),
                                   ([(None, 2), (3, 6)], "s0", ((4, 6), (18, 20))),
                                   ([(0, 1)], "s5", ((4, 8), (10, 20))),
                                   ([(0, 1)], "w0", ((4, 8), (10, 20)))]:
            lodge = lodge_with(source_with(), Ask("a", spans=[(0, 4), (8, 10)]))
            ask = Ask("a", heads={"x": "y"}, spans=spans, when=when, unless=["s7"], wish="worn 2, atmost 3")
            self.check(lodge, ask, ("a", (("x", "y"),), lacks, (), "s0", "atmost 3, firm"))

    def test_held_with_a_weak_mark_that_lacks_something(self):
        for spans, when in [((), None), (((0, 5),), None), (((0, 4),), "w0"), (((0, 4),), "s0")]:
            lodge = lodge_with(source_with(weak=True), Ask("a", spans=[(0, 4)]))
            self.check(lodge, Ask("a", spans=spans, when=when, unless=["w7"]), ("a", (), spans, (), when, "firm"))

    def test_a_copy_that_is_gone(self):
        source = Source()
        source.write("a", Page(None, rule="keep 1"))
        for ask, told in [(Ask("a"), ("a", (), (), (), None, "firm")),
                          (Ask("a", spans=[(0, 2)], when="s1", unless=["s1"]), ("a", (), ((0, 2),), (), "s1", "firm"))]:
            lodge = lodge_with(source, Ask("a"))
            lodge.wait(5)
            self.check(lodge, ask, told)

    def test_a_copy_of_other_heads_or_another_path_is_not_held(self):
        source = source_with(turns=["lang"], forms=[(["x"], "other")])
        source.write("b", Page("y"))
        lodge = lodge_with(source, Ask("a", heads={"lang": "x"}), Ask("b"))
        self.check(lodge, Ask("a"), ("a", (), (), (), None, "firm"))
        self.check(lodge, Ask("c"), ("c", (), (), (), None, "firm"))

    def test_the_newest_is_held(self):
        lodge = Lodge(0)
        for at, turn in enumerate(["lang", "who"]):
            lodge.asked(who(0), Ask("a", heads={"lang": "z"} if at else None))
            lodge.came(at, Answer("whole", mark=f"s{at}", size=1, parts=[(0, "x")], turns=[turn], count=at + 1))
        self.check(lodge, Ask("a"), ("a", (), (), ("s1",), None, "firm"))

    def test_the_least_is_the_floor_of_the_path(self):
        lodge = Lodge(0)
        lodge.heard(4, paths=["a"])
        lodge.heard(9, tags=["a", "t"])
        lodge.heard(8, paths=["b"])
        self.check(lodge, Ask("a"), ("a", (), (), (), None, "firm"), least=4)
        self.assertEqual(plain(lodge.asked(who(0), Ask("a", spans=[(0, 1)]), least=6)),
                         [("asks", 1, ("a", (), ((0, 1),), (), None, "firm"), 6)])
        self.assertEqual(plain(lodge.asked(who(0), Ask("a", spans=[(0, 2)]), least=5)),
                         [("asks", 2, ("a", (), ((0, 2),), (), None, "firm"), 6)])

    def test_of_a_worn_copy_too(self):
        lodge = lodge_with(source_with(weak=True), Ask("a"))
        lodge.wait(5)
        lodge.heard(1, paths=["a"])
        self.check(lodge, Ask("a", spans=[(0, 3)], wish="atmost 9"),
                   ("a", (), ((0, 3),), ("w0",), None, "atmost 9, firm"), least=1)

    def test_held_as_it_was_when_the_errand_began(self):
        source = source_with("")
        lodge = lodge_with(source, Ask("a", spans=[(0, 4)]))
        about = lodge.asked(who(1), Ask("a", spans=[(4, 8)]))[0]
        lodge.wait(1)
        # Meanwhile another errand brings more parts, of the same make, and a floor takes that copy out.
        deed = lodge.asked(who(2), Ask("a", spans=[(12, 14)]))[0]
        lodge.came(deed[1], source.answer(deed[2]))
        self.assertEqual(lodge.copies()[0][5], ((0, "Some"), (12, "f ")))
        source.take_back(paths=["a"])
        lodge.heard(2, paths=["a"])
        lodge.came(about[1], source.answer(about[2]))
        self.assertEqual(lodge.copies()[0][5], ((0, "Some tex"),))

    def test_parts_that_come_to_held_later_do_not_count(self):
        lodge = Lodge(0)
        lodge.asked(who(0), Ask("a", spans=[(0, 1)]))
        lodge.asked(who(1), Ask("a", spans=[(5, 6)]))
        lodge.came(0, Answer("part", mark="s0", size=9, parts=[(0, "x")], count=2))
        about = lodge.asked(who(2), Ask("a", spans=[(8, 9)]))
        self.assertEqual(plain(about)[0][2], ("a", (), ((8, 9),), (), "s0", "firm"))
        lodge.came(1, Answer("part", mark="s0", size=9, parts=[(5, "y")], count=1))
        self.assertEqual(lodge.copies()[0][5], ((0, "x"), (5, "y")))
        lodge.heard(3, paths=["a"])
        lodge.came(2, Answer("part", mark="s0", size=9, parts=[(8, "z")], count=3))
        self.assertEqual(lodge.copies()[0][5], ((0, "x"), (8, "z")))


class Together(unittest.TestCase):
    def test_whatever_held_lacks_the_answer_brings_it(self):
        spans = [(), [(0, 4)], [(3, 8), (15, None)], [(None, 3)], [(40, 50)]]
        for first, second, weak, when in itertools.product(spans, spans, (False, True), (None, "s0", "s1", "w0")):
            source = source_with("", weak=weak)
            lodge = lodge_with(source, Ask("a", spans=first))
            ask = Ask("a", spans=second, when=when)
            told = plain(fetched(lodge, source, [ask]))
            self.assertEqual(told, [("told", who(99), source.answer(ask).told()[:6] + (((0, 1, 0),),))])


if __name__ == "__main__":
    unittest.main()
