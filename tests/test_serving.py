"""Points 12 and 13: what a rule and a wish say of a copy of an age."""

import itertools
import random
import unittest

from pagelodge.settings import Rule, Wish, lets, serves
from tests.samples import GREATEST, rule_fields, wish_fields

SERVED = ("fresh", "let", "worn")


def modelled(rule, wish, age):
    """All the words of point 12 that are so, in their order."""
    sentences = [
        ("anew", rule.anew or wish.anew),
        ("old", wish.atmost is not None and wish.atmost < age),
        ("fresh", rule.keep > age + wish.left),
        ("left", wish.left != 0),
        ("firm", rule.strict or wish.firm),
        ("let", rule.keep + wish.worn > age),
        ("worn", rule.keep + rule.worn > age),
        ("over", True),
    ]
    return [word for word, so in sentences if so]


def may_be_served(rule, wish, age, alone):
    word = modelled(rule, wish, age)[0]
    return word in SERVED or (alone and word == "over" and rule.keep + rule.alone > age)


def some_rules():
    for numbers in itertools.product([0, 2, 3], repeat=3):
        for truths in itertools.product([False, True], repeat=2):
            yield Rule(**dict(zip(("keep", "worn", "alone", "anew", "strict"), numbers + truths)))


def some_wishes():
    for numbers in itertools.product([None, 0, 2, 4], [0, 1, 2], [0, 1, 4]):
        for truths in itertools.product([False, True], repeat=2):
            yield Wish(**dict(zip(("atmost", "left", "worn", "anew", "firm"), numbers + truths)))


class Words(unittest.TestCase):
    def check_turn(self, rule, wish, age, below, at):
        """At the age told one word gives way to another."""
        with self.subTest(rule.spelled(), wish=wish.spelled(), age=age):
            self.assertEqual(lets(rule, wish, age - 1), below)
            self.assertEqual(lets(rule, wish, age), at)
            self.assertEqual(lets(rule, wish, age + 1), at)

    def test_anew_at_any_age(self):
        for age in (0, 5, GREATEST):
            for rule, wish in [(Rule(anew=True, keep=GREATEST), Wish()), (Rule(keep=GREATEST), Wish(anew=True)),
                               (Rule(anew=True), Wish(anew=True, atmost=0))]:
                self.assertEqual(lets(rule, wish, age), "anew")

    def test_where_the_words_turn(self):
        for keep in (5, 10 ** 30, GREATEST - 100):
            self.check_turn(Rule(keep=keep), Wish(), keep, "fresh", "over")
            self.check_turn(Rule(keep=keep), Wish(left=3), keep - 3, "fresh", "left")
            self.check_turn(Rule(keep=keep, worn=9), Wish(left=3, worn=9), keep - 3, "fresh", "left")
            self.check_turn(Rule(keep=keep, strict=True, worn=9), Wish(worn=9), keep, "fresh", "firm")
            self.check_turn(Rule(keep=keep, worn=9), Wish(worn=9, firm=True), keep, "fresh", "firm")
            self.check_turn(Rule(keep=keep), Wish(worn=9), keep, "fresh", "let")
            self.check_turn(Rule(keep=keep), Wish(worn=9), keep + 9, "let", "over")
            self.check_turn(Rule(keep=keep, worn=12), Wish(worn=9), keep + 9, "let", "worn")
            self.check_turn(Rule(keep=keep, worn=9), Wish(), keep, "fresh", "worn")
            self.check_turn(Rule(keep=keep, worn=9), Wish(), keep + 9, "worn", "over")
            self.check_turn(Rule(keep=keep, worn=9, alone=20), Wish(worn=12), keep + 12, "let", "over")
            self.check_turn(Rule(keep=keep), Wish(atmost=3), 4, "fresh", "old")
            self.check_turn(Rule(keep=keep), Wish(atmost=keep - 4, left=2), keep - 3, "fresh", "old")
            self.check_turn(Rule(keep=keep, worn=9), Wish(atmost=keep + 4), keep + 5, "worn", "old")
            self.check_turn(Rule(keep=keep), Wish(atmost=keep + 4, left=1), keep + 5, "left", "old")
            self.check_turn(Rule(keep=keep, strict=True), Wish(atmost=keep + 4), keep + 5, "firm", "old")

    def test_nothing_kept(self):
        self.assertEqual(lets(Rule(), Wish(), 0), "over")
        self.assertEqual(lets(Rule(), Wish(atmost=0), 0), "over")
        self.assertEqual(lets(Rule(), Wish(atmost=0), 1), "old")
        self.assertEqual(lets(Rule(), Wish(left=1), 0), "left")
        self.assertEqual(lets(Rule(), Wish(firm=True), 0), "firm")
        self.assertEqual(lets(Rule(), Wish(worn=1), 0), "let")
        self.assertEqual(lets(Rule(worn=1), Wish(), 0), "worn")

    def test_each_word_ahead_of_those_behind_it(self):
        seen = set()
        for rule, wish in itertools.product(list(some_rules()), list(some_wishes())):
            for age in range(9):
                words = modelled(rule, wish, age)
                if lets(rule, wish, age) != words[0]:
                    self.fail(f"lets({rule}; {wish}; {age}) is not {words[0]}")
                seen.update((words[0], word) for word in words[1:])
        order = ["anew", "old", "fresh", "left", "firm", "let", "worn", "over"]
        for first, second in itertools.combinations(order, 2):
            self.assertIn((first, second), seen)

    def test_what_has_no_say(self):
        for age in range(8):
            plain = lets(Rule(keep=2, worn=3), Wish(worn=1), age)
            self.assertEqual(lets(Rule(keep=2, worn=3, alone=4, own=True, common=True, never=True),
                                  Wish(worn=1, kept=True), age), plain)

    def test_sums_of_more_than_sixty_figures(self):
        rule, wish = Rule(keep=GREATEST, worn=GREATEST, alone=GREATEST), Wish(worn=7)
        self.assertEqual(lets(rule, wish, GREATEST + 6), "let")
        self.assertEqual(lets(rule, wish, GREATEST + 7), "worn")
        self.assertEqual(lets(rule, wish, 2 * GREATEST - 1), "worn")
        self.assertEqual(lets(rule, wish, 2 * GREATEST), "over")
        self.assertEqual(lets(rule, Wish(left=GREATEST), 0), "left")
        self.assertEqual(lets(rule, Wish(left=GREATEST - 1), 0), "fresh")
        self.assertIs(serves(Rule(keep=GREATEST, alone=9), Wish(), GREATEST + 8, alone=True), True)
        self.assertIs(serves(Rule(keep=GREATEST, alone=9), Wish(), GREATEST + 9, alone=True), False)


class Serving(unittest.TestCase):
    def test_by_its_word(self):
        for rule, wish, word, expected in [
            (Rule(keep=9), Wish(), "fresh", True),
            (Rule(keep=4), Wish(worn=2), "let", True),
            (Rule(keep=4, worn=2), Wish(), "worn", True),
            (Rule(keep=9, anew=True), Wish(), "anew", False),
            (Rule(keep=9), Wish(atmost=4), "old", False),
            (Rule(keep=9, worn=9, alone=9), Wish(left=5), "left", False),
            (Rule(keep=4, worn=9, alone=9), Wish(worn=9, firm=True), "firm", False),
            (Rule(keep=4, worn=1, alone=1), Wish(worn=1), "over", False),
        ]:
            with self.subTest(word):
                self.assertEqual(lets(rule, wish, 5), word)
                self.assertIs(serves(rule, wish, 5), expected)
                self.assertIs(serves(rule, wish, 5, alone=False), expected)
                self.assertIs(serves(rule, wish, 5, alone=True), expected)

    def test_where_no_answer_comes(self):
        rule = Rule(keep=4, worn=2, alone=5)
        told = [(serves(rule, Wish(), age), serves(rule, Wish(), age, alone=True)) for age in range(12)]
        self.assertEqual(told, [(True, True)] * 6 + [(False, True)] * 3 + [(False, False)] * 3)
        for wish in (Wish(anew=True), Wish(atmost=5), Wish(left=1), Wish(firm=True)):
            self.assertIs(serves(rule, wish, 6, alone=True), False)
        self.assertIs(serves(Rule(keep=4, alone=5, strict=True), Wish(), 6, alone=True), False)
        self.assertIs(serves(Rule(alone=1), Wish(), 0, alone=True), True)
        self.assertIs(serves(Rule(alone=1), Wish(), 1, alone=True), False)

    def test_alone_is_handed_in_by_name(self):
        self.assertRaises(TypeError, serves, Rule(), Wish(), 0, True)

    def test_all_small_ones(self):
        for rule, wish in itertools.product(list(some_rules()), list(some_wishes())):
            for age, alone in itertools.product(range(8), (False, True)):
                if serves(rule, wish, age, alone=alone) is not may_be_served(rule, wish, age, alone):
                    self.fail(f"serves({rule}; {wish}; {age}; {alone})")

    def test_nothing_handed_in_is_changed(self):
        rule, wish = Rule(keep=3, worn=2, alone=1, own=True), Wish(atmost=9, left=1, kept=True)
        before = (rule_fields(rule), wish_fields(wish))
        for age in range(9):
            lets(rule, wish, age)
            serves(rule, wish, age, alone=True)
        self.assertEqual((rule_fields(rule), wish_fields(wish)), before)


class NoMoreThanEither(unittest.TestCase):
    """Point 13, over drawn rules and wishes of small numbers."""

    def drawn(self):
        chance = random.Random(13)
        for turn in range(6000):
            rules = [Rule(keep=chance.randrange(5), worn=chance.randrange(4), alone=chance.randrange(6),
                          anew=chance.random() < 0.1, common=chance.random() < 0.5, strict=chance.random() < 0.2)
                     for rule in range(2)]
            wishes = [Wish(atmost=chance.choice([None, 1, 3, 6]), left=chance.choice([0, 0, 1, 2]),
                           worn=chance.randrange(5), anew=chance.random() < 0.1, firm=chance.random() < 0.2)
                      for wish in range(2)]
            yield rules, wishes

    def test_under_both_so_under_each(self):
        served = 0
        for rules, wishes in self.drawn():
            rule, wish = rules[0].both(rules[1]), wishes[0].both(wishes[1])
            for age, alone in itertools.product(range(10), (False, True)):
                if serves(rule, wishes[0], age, alone=alone):
                    served += 1
                    self.assertTrue(all(serves(each, wishes[0], age, alone=alone) for each in rules))
                if serves(rules[0], wish, age, alone=alone):
                    served += 1
                    self.assertTrue(all(serves(rules[0], each, age, alone=alone) for each in wishes))
                if serves(rule, wish, age, alone=alone):
                    for one, other in itertools.product(rules, wishes):
                        self.assertTrue(serves(one, other, age, alone=alone))
        self.assertGreater(served, 1000)

    def test_at_an_age_so_at_each_lesser_one(self):
        for rule, wish in itertools.product(list(some_rules()), list(some_wishes())):
            for alone in (False, True):
                told = [serves(rule, wish, age, alone=alone) for age in range(9)]
                self.assertEqual(told, sorted(told, reverse=True))

    def test_where_no_answer_comes_no_less_may_be_served(self):
        for rule, wish in itertools.product(list(some_rules()), list(some_wishes())):
            for age in range(9):
                self.assertGreaterEqual(serves(rule, wish, age, alone=True), serves(rule, wish, age))


if __name__ == "__main__":
    unittest.main()
