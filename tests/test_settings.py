"""Points 8 to 11: rules and wishes, how they are made, read, spelled and put together."""

import itertools
import random
import re
import unittest

from pagelodge.errors import NoRule, NoWish, PageError
from pagelodge.settings import Rule, Setting, Wish, read_rule, read_wish
from tests.samples import (GREATEST, RULE_FIELDS, WISH_FIELDS, expected_fields, off_by_one, rule_fields, wish_fields)

SIXTY = "9" * 60
NUMBERS = [1, 2, 10, 59, GREATEST]
WORD = re.compile("([a-z]{1,8})(?: (0|[1-9][0-9]{0,59}))?")


class Kind:
    """What tests of rules and of wishes differ in."""

    def __init__(self, made, read, refusal, untold, fields):
        self.made = made
        self.read = read
        self.refusal = refusal
        self.untold = untold
        self.fields = fields
        self.truths = [name for name, worth in untold.items() if worth is False]
        self.numbers = [name for name in untold if name not in self.truths]


RULES = Kind(Rule, read_rule, NoRule, RULE_FIELDS, rule_fields)
WISHES = Kind(Wish, read_wish, NoWish, WISH_FIELDS, wish_fields)
KINDS = [RULES, WISHES]


def modelled(kind, text):
    """What a text tells by point 10: a dict of the fields told, or the place of the first piece that is no word."""
    told = {}
    if set(text) <= {" "}:
        return told
    for at, piece in enumerate(text.split(",")):
        found = WORD.fullmatch(re.sub("^ *| *$", "", piece))
        if found is None:
            return at
        name, figures = found.groups()
        if name in kind.numbers:
            if figures is None:
                return at
            choice = max if name == "left" else min
            told[name] = choice(told.get(name, int(figures)), int(figures))
        elif name in kind.truths:
            if figures is not None:
                return at
            told[name] = True
    return told


def samples_of(kind):
    """Fields of many rules or wishes: all choices of truths with some choices of numbers."""
    for truths in itertools.product([False, True], repeat=len(kind.truths)):
        for numbers in ([], [0], [1], [0, 7], [3, 0, GREATEST], [0, 0, 12]):
            told = dict(zip(kind.truths, truths))
            told.update(zip(kind.numbers, numbers))
            yield told


class Making(unittest.TestCase):
    def test_with_nothing_told(self):
        for kind in KINDS:
            self.assertEqual(kind.fields(kind.made()), expected_fields(kind.untold, {}))

    def test_with_each_field_alone(self):
        for kind in KINDS:
            for name in kind.untold:
                for worth in ([0] + NUMBERS if name in kind.numbers else [True, False]):
                    with self.subTest(name, worth=worth):
                        self.assertEqual(kind.fields(kind.made(**{name: worth})),
                                         expected_fields(kind.untold, {name: worth}))
        self.assertIsNone(Wish(atmost=None).atmost)

    def test_with_all_fields_in_any_order(self):
        for kind in KINDS:
            told = {name: 5 + at if name in kind.numbers else True for at, name in enumerate(kind.untold)}
            for seed in range(50):
                order = list(told.items())
                random.Random(seed).shuffle(order)
                self.assertEqual(kind.fields(kind.made(**dict(order))), expected_fields(kind.untold, told))

    def test_fields_are_handed_in_by_name_alone(self):
        for kind in KINDS:
            self.assertRaises(TypeError, kind.made, 5)
            self.assertRaises(TypeError, kind.made, **{"other": 5})

    def test_both_kinds_stand_under_setting(self):
        self.assertTrue(issubclass(Rule, Setting) and issubclass(Wish, Setting))
        self.assertFalse(issubclass(Rule, Wish) or issubclass(Wish, Rule))

    def test_a_setting_by_itself_has_no_words(self):
        self.assertEqual((Setting().spelled(), str(Setting())), ("", ""))
        self.assertIs(type(Setting().both(Setting())), Setting)


class Reading(unittest.TestCase):
    def check(self, kind, text):
        expected = modelled(kind, text)
        try:
            told = kind.fields(kind.read(text))
        except PageError as refusal:
            told = (type(refusal), type(refusal.at), refusal.at)
        if isinstance(expected, dict):
            expected = expected_fields(kind.untold, expected)
        else:
            expected = (kind.refusal, int, expected)
        if told != expected:
            self.fail(f"{kind.read.__name__}({text!r}): {told} is not {expected}")

    def check_told(self, kind, text, **told):
        with self.subTest(text):
            self.assertEqual(kind.fields(kind.read(text)), expected_fields(kind.untold, told))
            self.check(kind, text)

    def check_refused(self, kind, text, at):
        with self.subTest(text):
            with self.assertRaises(kind.refusal) as caught:
                kind.read(text)
            self.assertEqual((type(caught.exception.at), caught.exception.at), (int, at))
            self.check(kind, text)

    def test_no_words(self):
        for kind in KINDS:
            for blanks in (0, 1, 2, 60):
                self.check_told(kind, " " * blanks)
            self.assertIs(type(kind.read("")), kind.made)

    def test_one_word(self):
        for kind in KINDS:
            for name in kind.numbers:
                for number in [0] + NUMBERS:
                    self.check_told(kind, f"{name} {number}", **{name: number})
            for name in kind.truths:
                self.check_told(kind, name, **{name: True})

    def test_several_words_in_any_order(self):
        for order in itertools.permutations(["keep 10", "worn 5", "own", "strict"]):
            self.check_told(RULES, ",".join(order), keep=10, worn=5, own=True, strict=True)
        for order in itertools.permutations(["atmost 0", "left 5", "worn 2", "firm"]):
            self.check_told(WISHES, ", ".join(order), atmost=0, left=5, worn=2, firm=True)

    def test_sixty_words(self):
        for kind in KINDS:
            for seed in range(40):
                chance = random.Random(seed)
                words = [chance.choice([f"{chance.choice(kind.numbers)} {chance.randrange(30)}",
                                        chance.choice(kind.truths), "other", f"more {chance.randrange(9)}"])
                         for word in range(60)]
                text = ",".join([" " * chance.randrange(3) + word + " " * chance.randrange(3) for word in words])
                self.assertIsInstance(modelled(kind, text), dict)
                self.check(kind, text)
                for at in (0, 31, 59):
                    self.check_refused(kind, ",".join(words[:at] + ["Wrong"] + words[at + 1:]), at)
                    self.check_refused(kind, ",".join(words[:at] + [""] + words[at + 1:] + ["x x", "y y"]), at)

    def test_a_number_told_more_than_once(self):
        for kind in KINDS:
            for name in kind.numbers:
                choice = max if name == "left" else min
                for numbers in itertools.product([0, 3, 7, 10, GREATEST], repeat=3):
                    text = ", ".join([f"{name} {number}" for number in numbers])
                    self.check_told(kind, text, **{name: choice(numbers)})
                self.check_told(kind, f"{name} 9,other 1,{name} 10", **{name: choice(9, 10)})

    def test_a_truth_told_more_than_once(self):
        for kind in KINDS:
            for name in kind.truths:
                self.check_told(kind, f"{name}, {name},{name}", **{name: True})

    def test_other_names_are_passed_over(self):
        for kind in KINDS:
            for other in ("x", "keeps", "kee", "ann", "abcdefgh", "who", "lef", "strictly"):
                self.check_told(kind, other)
                self.check_told(kind, f"{other} 0")
                self.check_told(kind, f"{other} {SIXTY}, anew,{other}", anew=True)
        for name in ("atmost", "left", "kept", "firm"):
            self.check_told(RULES, f"{name}, {name} 5, keep 2", keep=2)
        for name in ("keep", "alone", "own", "common", "never", "strict"):
            self.check_told(WISHES, f"{name}, {name} 5, left 2", left=2)

    def test_blanks_ahead_and_behind(self):
        for ahead, behind in itertools.product(["", " ", "  ", " " * 30], repeat=2):
            self.check_told(RULES, f"{ahead}keep 5{behind}", keep=5)
            self.check_told(RULES, f"{ahead}keep 5{behind},{ahead}own{behind}", keep=5, own=True)
            self.check_told(WISHES, f"anew{behind},{ahead}left 5", anew=True, left=5)

    def test_what_is_no_word(self):
        for kind in KINDS:
            number, truth = kind.numbers[0], kind.truths[0]
            wrong = [f"{name} {figures}" for name in kind.truths for figures in ("0", "1", SIXTY)] + kind.numbers
            wrong += [f"{number}  5", f"{number} 05", f"{number} 00", f"{number} 9{SIXTY}", f"{number} -5",
                      f"{number} +5", f"{number} 5 5", f"{number} five", f"{number}5", f"{number}=5", f"{number}\t5",
                      f"{number} 5\n", f"{number} 1_0", f"{number} 5.", f"{number} \u0665", f"{number.title()} 5", truth.title(),
                      truth.upper(), f"{truth}\n", f"\t{truth}", f"{truth} {truth}", "5", "0", "abcdefghi",
                      "abcdefghi 5", "other  5", "other 05", f"other 9{SIXTY}", "other x", "Other", "oth-r", "a/b",
                      "x x", "xx x", "\xe9", "", " ", "   "]
            for piece in wrong:
                if piece.strip(" ") != "":
                    self.check_refused(kind, piece, 0)
                    self.check_refused(kind, f" {piece} ", 0)
                self.check_refused(kind, f"{piece},{truth}", 0)
                self.check_refused(kind, f"{truth},{piece}", 1)
                self.check_refused(kind, f"{truth}, {piece}, {number} 5", 1)
                self.check_refused(kind, f"{number} 5,other, {piece},{piece},x x", 2)

    def test_pieces_without_signs(self):
        for kind in KINDS:
            for text, at in [(",", 0), (" , ", 0), (",anew", 0), ("anew,", 1), ("anew, ", 1), ("anew,,anew", 1),
                             ("anew, ,anew", 1), (",,,", 0), ("anew,anew,,", 2)]:
                self.check_refused(kind, text, at)

    def test_one_sign_off(self):
        for kind in KINDS:
            words = [f"{kind.numbers[0]} 10", f"{kind.numbers[1]} 0", kind.truths[0], kind.truths[-1]]
            for text in [*words, ", ".join(words), " , ".join(words[::-1]), "", " ", "abcdefgh 1"]:
                for other in off_by_one(text):
                    self.check(kind, other)

    def test_short_texts_of_telling_pieces(self):
        for length in range(6):
            for pieces in itertools.product(["keep", "left", "anew", " ", ",", "7", "0"], repeat=length):
                for kind in KINDS:
                    self.check(kind, "".join(pieces))

    def test_the_refusals_are_each_kinds_own(self):
        self.assertRaises(NoRule, read_rule, "keep")
        self.assertRaises(NoWish, read_wish, "left")
        self.assertEqual(read_rule("left").spelled(), "")
        self.assertEqual(read_wish("keep").spelled(), "")


class Spelling(unittest.TestCase):
    def test_words_in_order(self):
        for made, text in [
            (Rule(), ""),
            (Rule(keep=5), "keep 5"),
            (Rule(strict=True, never=True, common=True, own=True, anew=True, alone=3, worn=2, keep=1),
             "keep 1, worn 2, alone 3, anew, own, common, never, strict"),
            (Rule(alone=7, own=True), "alone 7, own"),
            (Rule(keep=0, worn=0, alone=0), ""),
            (Rule(worn=GREATEST), "worn " + SIXTY),
            (Rule(keep=10 ** 70), "keep 1" + "0" * 70),
            (Wish(), ""),
            (Wish(atmost=0), "atmost 0"),
            (Wish(atmost=None, left=0, worn=0), ""),
            (Wish(firm=True, kept=True, anew=True, worn=3, left=2, atmost=1),
             "atmost 1, left 2, worn 3, anew, kept, firm"),
            (Wish(left=GREATEST, firm=True), f"left {SIXTY}, firm"),
        ]:
            with self.subTest(text):
                self.assertEqual(made.spelled(), text)
                self.assertEqual(str(made), text)
                self.assertIs(type(made.spelled()), str)
                self.assertEqual(f"{made}", text)

    def test_just_what_differs(self):
        for kind in KINDS:
            for told in samples_of(kind):
                words = []
                for name, untold in kind.untold.items():
                    worth = told.get(name, untold)
                    if worth is True:
                        words.append(name)
                    elif worth != untold:
                        words.append(f"{name} {worth}")
                made = kind.made(**told)
                self.assertEqual(made.spelled(), ", ".join(words))
                self.assertEqual(str(made), ", ".join(words))

    def test_what_is_spelled_is_read_again(self):
        for kind in KINDS:
            for told in samples_of(kind):
                made = kind.made(**told)
                self.assertEqual(kind.fields(kind.read(made.spelled())), kind.fields(made))
                self.assertEqual(kind.read(made.spelled()).spelled(), made.spelled())

    def test_what_is_read_is_spelled_anew(self):
        self.assertEqual(read_rule(" own ,keep 9,x 1,keep 4 , worn 0").spelled(), "keep 4, own")
        self.assertEqual(str(read_wish("firm,left 2,anew,left 8,atmost 3,atmost 0")), "atmost 0, left 8, anew, firm")


def both_rules(one, other):
    """Point 11 for the fields of two rules."""
    told = {name: min(one.get(name, 0), other.get(name, 0)) for name in RULES.numbers}
    told.update({name: one[name] or other[name] for name in RULES.truths})
    told["common"] = one["common"] and other["common"]
    return told


def both_wishes(one, other):
    """Point 11 for the fields of two wishes."""
    told = {name: one[name] or other[name] for name in WISHES.truths}
    bounds = [fields["atmost"] for fields in (one, other) if fields.get("atmost") is not None]
    told["atmost"] = min(bounds) if bounds else None
    told["left"] = max(one.get("left", 0), other.get("left", 0))
    told["worn"] = min(one.get("worn", 0), other.get("worn", 0))
    return told


class Both(unittest.TestCase):
    def test_of_two(self):
        for kind, model in [(RULES, both_rules), (WISHES, both_wishes)]:
            for one, other in itertools.product(list(samples_of(kind)), repeat=2):
                first, second = kind.made(**one), kind.made(**other)
                told = first.both(second)
                self.assertEqual(kind.fields(told), expected_fields(kind.untold, model(one, other)))

    def test_a_new_one_and_those_handed_in_stay(self):
        for kind in KINDS:
            for one, other in itertools.product(list(samples_of(kind))[::7], repeat=2):
                first, second = kind.made(**one), kind.made(**other)
                told = first.both(second)
                again = first.both(second)
                self.assertIs(type(told), kind.made)
                self.assertEqual(len({id(thing) for thing in (first, second, told, again)}), 4)
                self.assertEqual(kind.fields(first), expected_fields(kind.untold, one))
                self.assertEqual(kind.fields(second), expected_fields(kind.untold, other))

    def test_with_itself(self):
        for kind in KINDS:
            for told in samples_of(kind):
                made = kind.made(**told)
                self.assertEqual(kind.fields(made.both(made)), kind.fields(made))
                self.assertIsNot(made.both(made), made)

    def test_either_way_round_and_of_three(self):
        for kind in KINDS:
            some = [kind.made(**told) for told in list(samples_of(kind))[::11]]
            for one, two, three in itertools.product(some, repeat=3):
                self.assertEqual(kind.fields(one.both(two)), kind.fields(two.both(one)))
                self.assertEqual(kind.fields(one.both(two).both(three)), kind.fields(one.both(two.both(three))))
                self.assertEqual(kind.fields(three.both(one).both(two)), kind.fields(one.both(two).both(three)))

    def test_no_bound_and_a_bound(self):
        for number in (0, 5, GREATEST):
            self.assertEqual(Wish(atmost=number).both(Wish()).atmost, number)
            self.assertEqual(Wish().both(Wish(atmost=number)).atmost, number)
        self.assertIsNone(Wish().both(Wish()).atmost)
        self.assertEqual(Wish(atmost=4).both(Wish(atmost=0)).atmost, 0)

    def test_spelled(self):
        self.assertEqual(read_rule("keep 5, common, own").both(read_rule("keep 3, alone 2, strict")).spelled(),
                         "keep 3, own, strict")
        self.assertEqual(read_wish("left 5, worn 3").both(read_wish("worn 9, atmost 2, kept")).spelled(),
                         "atmost 2, left 5, worn 3, kept")


if __name__ == "__main__":
    unittest.main()
