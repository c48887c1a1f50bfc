"""Points 14 and 15: pages, how they are made and refused, and their text for heads."""

import itertools
import random
import unittest

from pagelodge.errors import NoPage, NoRule, PageError
from pagelodge.pages import Page
from pagelodge.settings import Rule, read_rule
from pagelodge.words import heads_row
from tests.samples import expected_fields, no_texts, RULE_FIELDS, rule_fields

FORMS = ((("de", "x"), "Seite"), (("de", ""), "Blatt"), (("", ""), ""), (("fr", "x"), "Page"))
WHOLE = {"rule": "keep 5, own", "turns": ("lang", "who"), "forms": FORMS, "tags": ("news", "daily"), "weak": True}
SIXTY_THREE = [first + second for first in "abcdefghi" for second in "tuvwxyz"]

NO_NAMES = ["", "A", "abcdefghi", "a b", "a1", "a-", "a/b", "\xe9", "a\n"]
NO_WORTHS = ["A", "a b", "abcdefghijklm", "a_", "\xe9", "a\n"]


def as_lists(forms):
    return [(list(worths), text) for worths, text in forms]


class Made(unittest.TestCase):
    def test_with_nothing_but_a_text(self):
        for text in ("hello", "", "A longer text, with: signs!", "x" * 200, None):
            with self.subTest(text):
                page = Page(text)
                self.assertEqual(page.text, text)
                self.assertEqual((page.turns, page.forms, page.tags), ((), (), ()))
                self.assertIs(page.weak, False)
                self.assertIs(type(page.rule), Rule)
                self.assertEqual(rule_fields(page.rule), expected_fields(RULE_FIELDS, {}))
                self.assertEqual(page.told(), (text, "", (), (), (), False))

    def test_with_all_names_in_any_order(self):
        for order in itertools.permutations(WHOLE.items()):
            page = Page("page", **dict(order))
            self.assertEqual(page.told(),
                             ("page", "keep 5, own", ("lang", "who"), FORMS, ("daily", "news"), True))
            self.assertEqual(rule_fields(page.rule), expected_fields(RULE_FIELDS, {"keep": 5, "own": True}))
            self.assertEqual((page.turns, page.forms), (("lang", "who"), FORMS))
            self.assertEqual(page.tags, ("daily", "news"))
            self.assertIs(page.weak, True)

    def test_some_names_left_out(self):
        for many in range(len(WHOLE)):
            for names in itertools.combinations(WHOLE, many):
                if "forms" not in names or "turns" in names:
                    handed = {name: WHOLE[name] for name in names}
                    page = Page("page", **handed)
                    told = {"rule": "", "turns": (), "forms": (), "tags": (), "weak": False, **handed}
                    told["tags"] = tuple(sorted(told["tags"]))
                    self.assertEqual(page.told(), ("page", *told.values()))

    def test_a_page_that_is_gone_has_the_rest(self):
        page = Page(None, rule="never", turns=["a"], tags=["t"], weak=True)
        self.assertEqual(page.told(), (None, "never", ("a",), (), ("t",), True))

    def test_rows_as_lists_and_as_tuples(self):
        for forms in (FORMS, list(FORMS), as_lists(FORMS), tuple(as_lists(FORMS)), [list(form) for form in FORMS]):
            page = Page("p", turns=["lang", "who"], forms=forms, tags=["b", "a"])
            self.assertEqual(page.told(), ("p", "", ("lang", "who"), FORMS, ("a", "b"), False))
            self.assertEqual({type(thing) for thing in (page.turns, page.forms, page.tags)}, {tuple})
            self.assertEqual({type(thing) for form in page.forms for thing in (form, form[0])}, {tuple})
            self.assertIs(type(page.told()), tuple)

    def test_turns_stay_in_their_order_and_tags_are_sorted(self):
        for order in itertools.permutations(["b", "a", "ab", "c"]):
            page = Page("p", turns=order, tags=order)
            self.assertEqual(page.turns, order)
            self.assertEqual(page.tags, ("a", "ab", "b", "c"))

    def test_sixty_three_things(self):
        forms = [([worth] + [""] * 62, worth) for worth in SIXTY_THREE]
        page = Page("p", turns=SIXTY_THREE, forms=forms, tags=SIXTY_THREE[::-1])
        self.assertEqual(page.turns, tuple(SIXTY_THREE))
        self.assertEqual(page.tags, tuple(SIXTY_THREE))
        self.assertEqual([page.text_for([("at", text)]) for worths, text in forms], SIXTY_THREE)

    def test_forms_may_have_like_texts(self):
        page = Page("p", turns=["a"], forms=[(["x"], "p"), (["y"], "p"), ([""], "p"), (["abcdefghijkl"], "")])
        self.assertEqual([text for worths, text in page.forms], ["p", "p", "p", ""])

    def test_the_rule_is_the_one_told(self):
        for text in ("", "keep 9, worn 3,alone 1", "own,common", " never , strict,x 5", "keep 4,keep 2,anew"):
            self.assertEqual(rule_fields(Page("p", rule=text).rule), rule_fields(read_rule(text)))
            self.assertEqual(Page("p", rule=text).told()[1], read_rule(text).spelled())

    def test_all_but_the_text_is_handed_in_by_name(self):
        self.assertRaises(TypeError, Page)
        self.assertRaises(TypeError, Page, "p", "keep 5")

    def test_what_is_changed_afterwards_changes_nothing(self):
        turns, tags, forms = ["lang", "who"], ["b", "a"], as_lists(FORMS)
        page = Page("p", turns=turns, forms=forms, tags=tags)
        self.assertEqual((turns, tags, forms), (["lang", "who"], ["b", "a"], as_lists(FORMS)))
        before = page.told()
        forms[0][0][0] = "xx"
        forms[1][0].append("y")
        turns[0] = "other"
        for row in (turns, tags, forms):
            row.append("more")
            row.reverse()
        self.assertEqual(page.told(), before)
        self.assertEqual((page.turns, page.forms, page.tags), before[2:5])
        self.assertEqual(page.text_for([("lang", "de"), ("who", "x")]), "Seite")


class Refused(unittest.TestCase):
    def check(self, why, text="p", **names):
        with self.assertRaises(NoPage) as caught:
            Page(text, **names)
        self.assertEqual(caught.exception.why, why)

    def test_a_rule(self):
        for rule, at in [("keep", 0), ("own 5", 0), ("keep 5,", 1), ("anew,own,Keep 5", 2), ("x  1", 0),
                         ("keep 05", 0)]:
            with self.assertRaises(NoRule) as caught:
                Page("p", rule=rule)
            self.assertEqual(caught.exception.at, at)

    def test_names_that_are_none_or_alike(self):
        for name in ("turns", "tags"):
            for thing in NO_NAMES + no_texts():
                for row in ([thing], ["a", thing], [thing, "a"], [thing, thing], ["a", thing, "b"], ["b", "b", thing]):
                    self.check(name, **{name: row})
                    self.check(name, **{name: tuple(row)})
            for row in (["a", "a"], ["a", "b", "a"], ["a", "b", "c", "c"], SIXTY_THREE + ["at"]):
                self.check(name, **{name: row})

    def test_turns_and_tags_may_have_names_in_common(self):
        self.assertEqual(Page("p", turns=["a"], tags=["a"]).told(), ("p", "", ("a",), (), ("a",), False))

    def test_another_number_of_worths(self):
        for turns in (["a"], ["a", "b"], ["a", "b", "c"]):
            for many in range(5):
                if many != len(turns):
                    self.check("forms", turns=turns, forms=[(["x"] * many, "t")])
                    self.check("forms", turns=turns, forms=[(["y"] * len(turns), "t"), (("x",) * many, "t")])

    def test_what_is_no_worth(self):
        for thing in NO_WORTHS + no_texts():
            for row in ([thing, "x"], ["x", thing], [thing, thing]):
                self.check("forms", turns=["a", "b"], forms=[(row, "t")])
                self.check("forms", turns=["a", "b"], forms=[(("x", "y"), "t"), (tuple(row), "t")])
                self.check("forms", turns=["a", "b"], forms=[(row, "t"), (row, "t")])
            self.check("forms", turns=["a", "b"], forms=[([thing], "t")])
            self.check("forms", turns=["a"], forms=[([thing, "x"], "t")])

    def test_worths_of_one_ahead(self):
        for worths in itertools.product(["", "x", "0"], repeat=2):
            others = [(other, "o") for other in itertools.product(["", "x", "0"], repeat=2) if other != worths]
            self.assertEqual(len(Page("p", turns=["a", "b"], forms=others + [(worths, "t")]).forms), 9)
            for at in (0, 4, 8):
                forms = others[:at] + [(worths, "t")] + others[at:]
                for again in (worths, list(worths)):
                    self.check("forms", turns=["a", "b"], forms=forms + [(again, "t")])
                    self.check("forms", turns=["a", "b"], forms=[(again, "u")] + forms)

    def test_a_form_of_a_page_that_is_gone(self):
        self.check("forms", None, turns=["a"], forms=[(["x"], "t")])
        self.check("forms", None, forms=[([], "t")])
        self.assertEqual(Page(None, turns=["a"], forms=[]).forms, ())

    def test_a_form_where_there_are_no_turns(self):
        self.check("forms", forms=[([], "t")])
        self.check("forms", forms=[((), "t"), ((), "u")])
        self.check("forms", forms=[(["x"], "t")])
        self.check("forms", "", turns=(), forms=[([], "")])

    def test_the_first_of_several_causes(self):
        wrong = [("rule", "keep"), ("turns", ["A"]), ("forms", [(["B", "B"], "t")]), ("tags", ["a", "a"])]
        for many in range(1, 5):
            for chosen in itertools.combinations(wrong, many):
                for order in itertools.permutations(chosen):
                    with self.subTest(order), self.assertRaises(PageError) as caught:
                        Page("p", **dict(order))
                    first = chosen[0][0]
                    if first == "rule":
                        self.assertIs(type(caught.exception), NoRule)
                        self.assertEqual(caught.exception.at, 0)
                    else:
                        self.assertIs(type(caught.exception), NoPage)
                        self.assertEqual(caught.exception.why, first)

    def test_things_of_any_kind_in_two_places(self):
        for thing in no_texts():
            self.check("turns", turns=[thing], forms=[([thing], "t")], tags=[thing])
            self.check("turns", None, turns=[thing], forms=[([thing], "t")])
            self.check("forms", turns=["a"], forms=[([thing], "t")], tags=[thing])
            self.assertRaises(NoRule, Page, "p", rule="keep", turns=[thing], tags=[thing])

    def test_a_refusal_changes_nothing(self):
        turns, tags, forms = ["b", "a"], ["d", "c", "d"], [[["x", "y"], "t"]]
        self.check("tags", turns=turns, forms=forms, tags=tags)
        self.assertEqual((turns, tags, forms), (["b", "a"], ["d", "c", "d"], [[["x", "y"], "t"]]))


class ForHeads(unittest.TestCase):
    def test_worths(self):
        page = Page("p", turns=["who", "lang"])
        for heads, worths in [
            ({}, ("", "")),
            ({"lang": "de"}, ("", "de")),
            ({"who": "x", "lang": "de"}, ("x", "de")),
            ({"who": "", "lang": "0", "other": "y"}, ("", "0")),
            ({"wh": "a", "langs": "b"}, ("", "")),
        ]:
            for row in (heads_row(heads), list(heads_row(heads))):
                self.assertEqual(page.worths_for(row), worths)
                self.assertIs(type(page.worths_for(row)), tuple)
        self.assertEqual(Page("p").worths_for((("a", "x"),)), ())
        self.assertEqual(Page(None, turns=["a"]).worths_for((("a", "x"),)), ("x",))

    def test_text_of_the_form_with_just_these_worths(self):
        page = Page("own", turns=("lang", "who"), forms=FORMS)
        for heads, text in [
            ({}, ""),
            ({"lang": "de"}, "Blatt"),
            ({"lang": "de", "who": "x"}, "Seite"),
            ({"lang": "de", "who": "y"}, "own"),
            ({"lang": "fr"}, "own"),
            ({"lang": "fr", "who": "x"}, "Page"),
            ({"who": "x"}, "own"),
            ({"lang": "x", "who": "de"}, "own"),
            ({"lang": "", "who": "", "other": "x"}, ""),
        ]:
            for row in (heads_row(heads), list(heads_row(heads))):
                self.assertEqual(page.text_for(row), text)

    def test_its_own_text_where_there_are_no_forms(self):
        for text in ("own", "", None):
            for heads in ((), (("a", "x"),), [("a", "x"), ("b", "y")]):
                self.assertEqual(Page(text).text_for(heads), text)
                self.assertEqual(Page(text, turns=["a"]).text_for(heads), text)

    def test_drawn_pages(self):
        chance = random.Random(15)
        worths = ["", "x", "y"]
        for turn in range(300):
            turns = chance.sample(["a", "b", "c"], chance.randrange(1, 4))
            all_worths = list(itertools.product(worths, repeat=len(turns)))
            chosen = chance.sample(all_worths, chance.randrange(len(all_worths)))
            forms = [(row, f"{row} {turn}") for row in chosen]
            page = Page("own", turns=turns, forms=forms)
            for told in itertools.product(worths, repeat=3):
                heads = dict(zip("abc", told))
                expected = tuple(heads[name] for name in turns)
                self.assertEqual(page.worths_for(heads_row(heads)), expected)
                self.assertEqual(page.text_for(heads_row(heads)), dict(forms).get(expected, "own"))

    def test_heads_handed_in_are_not_changed(self):
        heads = [("lang", "de"), ("who", "x")]
        page = Page("own", turns=("lang", "who"), forms=FORMS)
        before = page.told()
        page.worths_for(heads)
        page.text_for(heads)
        self.assertEqual(heads, [("lang", "de"), ("who", "x")])
        self.assertEqual(page.told(), before)


if __name__ == "__main__":
    unittest.main()
