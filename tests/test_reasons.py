"""Point 32: the reasons why a lodge would or would not serve an ask."""

import itertools
import random
import unittest

from pagelodge.asks import Answer, Ask
from pagelodge.lodges import Lodge, OwnLodge
from pagelodge.pages import Page
from pagelodge.settings import Rule
from pagelodge.source import Source
from tests.samples import GREATEST, fetched, who


def kept(lodge, answer, **asked):
    """Lets a lodge ask and puts an answer to its shelf."""
    deeds = lodge.asked(who(0), Ask("a", wish="anew", **asked))
    lodge.came(deeds[0][1], answer)


def part(text="text", mark="s0", count=1, **more):
    return Answer("part", mark=mark, size=20, parts=[(0, text)], count=count, **more)


class Reasons(unittest.TestCase):
    def test_without_a_copy(self):
        lodge = Lodge(0)
        kept(lodge, part(rule=Rule(keep=9)))
        self.assertEqual(lodge.reasons(Ask("b")), [])
        self.assertEqual(lodge.reasons(Ask("a/a")), [])
        self.assertEqual(Lodge(0).reasons(Ask("a")), [])

    def test_heads(self):
        lodge = Lodge(0)
        kept(lodge, part(turns=["b", "c", "a"], rule=Rule(keep=9)), heads={"a": "x", "c": "y"})
        for heads, reason in [({}, ("heads", "c", "y", "")), ({"a": "x", "c": "z"}, ("heads", "c", "y", "z")),
                              ({"a": "z", "c": "y"}, ("heads", "a", "x", "z")), ({"b": "q"}, ("heads", "b", "", "q")),
                              ({"a": "x", "b": "q", "c": "y"}, ("heads", "b", "", "q")),
                              ({"c": "y"}, ("heads", "a", "x", "")),
                              ({"a": "x", "c": "y", "d": "w"}, ("serves", "fresh"))]:
            self.assertEqual(lodge.reasons(Ask("a", heads=heads, spans=[(0, 4)])), [reason])

    def test_elder(self):
        lodge = Lodge(0)
        for at, (turn, count) in enumerate([("a", 4), ("b", 7), ("c", 7), ("d", 5)]):
            heads = {name: "z" for name in "abcd"[:at]}
            kept(lodge, part(turns=[turn], rule=Rule(keep=9), count=count, mark=f"s{at}"), heads=heads)
        ask = Ask("a", spans=[(0, 1)])
        self.assertEqual(lodge.reasons(ask), [("elder", 7), ("elder", 7), ("serves", "fresh"), ("elder", 7)])
        self.assertEqual(lodge.reasons(Ask("a", heads={"c": "x"})),
                         [("elder", 7), ("lacks", 4), ("heads", "c", "", "x"), ("elder", 7)])
        self.assertEqual(lodge.reasons(Ask("a", heads={"b": "x", "c": "y"}, wish="anew")),
                         [("elder", 5), ("heads", "b", "", "x"), ("heads", "c", "", "y"), ("anew",)])

    def test_words(self):
        for rule, wish, age, reason in [
                (Rule(anew=True), "", 0, ("anew",)), (Rule(keep=9), "anew", 0, ("anew",)),
                (Rule(keep=9), "atmost 2", 3, ("old",)), (Rule(keep=9), "atmost 3", 3, ("serves", "fresh")),
                (Rule(keep=9), "left 6", 3, ("left",)), (Rule(keep=9), "left 5", 3, ("serves", "fresh")),
                (Rule(keep=3, strict=True), "", 3, ("firm",)), (Rule(keep=3, worn=9), "firm", 3, ("firm",)),
                (Rule(keep=3), "worn 1", 3, ("serves", "let")), (Rule(keep=3, worn=1), "", 3, ("serves", "worn")),
                (Rule(keep=3, worn=1), "", 4, ("over",)), (Rule(keep=3, alone=9), "", 4, ("over",)),
                (Rule(), "kept", 0, ("over",)), (Rule(keep=9), "kept", 0, ("serves", "fresh"))]:
            lodge = Lodge(0)
            kept(lodge, part(rule=rule))
            lodge.wait(age)
            self.assertEqual(lodge.reasons(Ask("a", spans=[(0, 4)], wish=wish)), [reason])
            # What may not be served by the word is not looked at further.
            lacking = reason if len(reason) == 1 else ("lacks", 4)
            self.assertEqual(lodge.reasons(Ask("a", wish=wish)), [lacking])

    def test_lacks(self):
        lodge = Lodge(0)
        answer = Answer("part", mark="s0", size=20, parts=[(2, "xy"), (6, "z")], count=1, rule=Rule(keep=9))
        kept(lodge, answer, spans=[(2, 4), (6, 7)])
        for more, reason in [
                ({}, ("lacks", 0)), ({"spans": [(3, None)]}, ("lacks", 4)), ({"spans": [(6, 8)]}, ("lacks", 7)),
                ({"spans": [(None, 1), (2, 3)]}, ("lacks", 19)), ({"spans": [(2, 4), (6, 7)]}, ("serves", "fresh")),
                ({"spans": [(2, 4)], "when": "s1"}, ("lacks", 0)), ({"unless": ["s0"]}, ("serves", "fresh")),
                ({"spans": [(20, 21)]}, ("serves", "fresh"))]:
            self.assertEqual(lodge.reasons(Ask("a", **more)), [reason])

    def test_far_off(self):
        lodge = Lodge(0)
        answer = Answer("part", mark="s0", size=2 * GREATEST, parts=[(GREATEST, "x")], count=GREATEST,
                        rule=Rule(keep=GREATEST))
        kept(lodge, answer, spans=[(GREATEST, GREATEST + 1)])
        self.assertEqual(lodge.reasons(Ask("a", spans=[(GREATEST, None)])), [("lacks", GREATEST + 1)])

    def test_gone(self):
        lodge = Lodge(0)
        kept(lodge, Answer("gone", count=1, rule=Rule(keep=2)))
        self.assertEqual(lodge.reasons(Ask("a")), [("serves", "fresh")])

    def test_in_the_shelfs_order_and_nothing_changes(self):
        lodge = Lodge(0)
        for worth in "xyz":
            kept(lodge, part(turns=["lang"], rule=Rule(keep=2, worn=9)), heads={"lang": worth}, spans=[(0, 4)])
        lodge.wait(3)
        lodge.asked(who(1), Ask("a", heads={"lang": "x"}, spans=[(0, 4)]))
        before = (lodge.copies(), lodge.errands(), lodge.floors(), lodge.clock)
        ask = Ask("a", heads={"lang": "y"}, spans=[(0, 4)])
        expected = [("serves", "worn"), ("heads", "lang", "z", "y"), ("heads", "lang", "x", "y")]
        for at in range(3):
            told = lodge.reasons(ask)
            self.assertEqual(told, expected)
            self.assertEqual({type(reason) for reason in told}, {tuple})
            told.clear()
        self.assertEqual((lodge.copies(), lodge.errands(), lodge.floors(), lodge.clock), before)


class Served(unittest.TestCase):
    def test_the_lodge_serves_just_where_one_says_so(self):
        wishes = ["", "anew", "atmost 2", "left 2", "worn 3", "kept", "firm", "kept, worn 1"]
        rules = ["", "keep 3", "keep 2, worn 2", "keep 9, strict", "keep 1, worn 5", "anew, keep 9"]
        for seed in range(150):
            chance = random.Random(seed)
            source, lodge = Source(), chance.choice([Lodge(0), OwnLodge(0, room=30)])
            for deed in range(25):
                if chance.random() < 0.4:
                    turns = chance.choice([[], ["lang"], ["who"], ["who", "lang"]])
                    page = Page(chance.choice(["Some text", "some text", "other", ""]), rule=chance.choice(rules),
                                turns=turns, weak=chance.random() < 0.3)
                    source.write("a", page)
                lodge.wait(chance.randrange(3))
                heads = {name: chance.choice("xy") for name in ("lang", "who") if chance.random() < 0.3}
                ask = Ask("a", heads=heads, spans=chance.choice([[], [(0, 3)], [(2, 5), (None, 1)], [(30, 31)]]),
                          unless=chance.choice([[], [], ["s0", "w0"]]), wish=chance.choice(wishes))
                says = [reason for reason in lodge.reasons(ask) if reason[0] == "serves"]
                deeds = lodge.asked(who(deed), ask)
                is_served = bool(deeds) and deeds[0][0] == "told" and deeds[0][2].word != "unkept"
                self.assertEqual(len(says), 1 if is_served else 0)
                for number in [row[0] for row in lodge.errands()]:
                    lodge.give_up(number)
                if chance.random() < 0.6:
                    fetched(lodge, source, [ask])

    def test_every_word_with_and_without_kept(self):
        for age, wish in itertools.product(range(6), ["", "firm", "worn 1"]):
            lodge = Lodge(0)
            kept(lodge, part(rule=Rule(keep=2, worn=2)))
            lodge.wait(age)
            ask = Ask("a", spans=[(0, 4)], wish=wish)
            serves = lodge.reasons(ask)[0][0] == "serves"
            self.assertEqual(lodge.asked(who(1), ask)[0][0] == "told", serves)


if __name__ == "__main__":
    unittest.main()
