"""Points 38 and 39: pages, asks and answers shown as texts and read again."""

import random
import unittest

from pagelodge.asks import Ask
from pagelodge.errors import NoText
from pagelodge.pages import Page
from pagelodge.texts import read_answer, read_ask, read_page, show_answer, show_ask, show_page
from tests.samples import ALPHABET, FAR, GREATEST, PRINTABLE, drawn_ask, drawn_page, off_by_one

HUNDRED = 10 ** 100 - 1
SIGNS = "".join(sign for sign in PRINTABLE if sign != "%")

PAGES = [
    ("a", Page("hello"), "page a\ntext hello"),
    ("a/b/c/d", Page(""), "page a/b/c/d\ntext "),
    ("a", Page(" "), "page a\ntext  "),
    ("a", Page(None), "page a\ngone"),
    ("a", Page(SIGNS), f"page a\ntext {SIGNS}"),
    ("a", Page("gone"), "page a\ntext gone"),
    ("page", Page("text x", weak=True), "page page\nweak\ntext text x"),
    ("a", Page(None, rule="keep 5", weak=True, turns=["x"], tags=["t"]),
     "page a\nrule keep 5\nturns x\ntags t\nweak\ngone"),
    ("a", Page("x", rule=" strict ,worn 2,keep 1, other 4, keep 9"), "page a\nrule keep 1, worn 2, strict\ntext x"),
    ("a", Page("x", rule=f"keep {GREATEST}"), f"page a\nrule keep {GREATEST}\ntext x"),
    ("a", Page("x", turns=["who", "lang"]), "page a\nturns who lang\ntext x"),
    ("a", Page("x", tags=["who", "lang"]), "page a\ntags lang who\ntext x"),
    ("a", Page("x", turns=["lang"], forms=[([""], "a")]), "page a\nturns lang\ntext x\nform  a"),
    ("a", Page("x", turns=["lang"], forms=[([""], "")]), "page a\nturns lang\ntext x\nform  "),
    ("a", Page("x", turns=["lang"], forms=[(["de"], " y "), ([""], "z z"), (["-"], "")]),
     "page a\nturns lang\ntext x\nform de  y \nform  z z\nform - "),
    ("a", Page("x", turns=["b", "a"], forms=[(["", ""], "p"), (["", "1"], "q"), (["2", ""], "")]),
     "page a\nturns b a\ntext x\nform , p\nform ,1 q\nform 2, "),
    ("news/today", Page("hello, world", rule="keep 5, own", turns=["lang", "who"], tags=["daily", "news"], weak=True,
                        forms=[(["de", "0-a"], "hallo, welt")]),
     "page news/today\nrule keep 5, own\nturns lang who\ntags daily news\nweak\ntext hello, world\nform de,0-a hallo, welt"),
]

ASKS = [
    (Ask("a"), "a"),
    (Ask("a/b/c/d"), "a/b/c/d"),
    (Ask("wish", wish="firm"), "wish wish firm"),
    (Ask("heads", heads={"wish": "wish"}), "heads heads wish=wish"),
    (Ask("a", heads={"who": "me", "lang": "de-0", "x": ""}), "a heads lang=de-0,who=me"),
    (Ask("a", heads={"x": "", "y": ""}), "a"),
    (Ask("a", spans=[(0, 5)]), "a spans 0..5"),
    (Ask("a", spans=[(7, None), (None, 3), (0, GREATEST)]), f"a spans 7..,..3,0..{GREATEST}"),
    (Ask("a", when="s0"), "a when s0"),
    (Ask("a", unless=["s0", "w12", "s0"]), "a unless s0,w12,s0"),
    (Ask("a", wish="kept,worn 3 , other"), "a wish worn 3, kept"),
    (Ask("a", wish=f"atmost 0, left {GREATEST}"), f"a wish atmost 0, left {GREATEST}"),
    (Ask("a", spans=[(0, 1)], wish="anew"), "a spans 0..1 wish anew"),
    (Ask("a", heads={"b": "c"}, spans=[(2, 9), (0, 1)], when=f"s{GREATEST}", unless=["w1", "s2"], wish="firm, left 2"),
     f"a heads b=c spans 2..9,0..1 when s{GREATEST} unless w1,s2 wish left 2, firm"),
]

ANSWERS = [
    (("silent", None, 0, (), 0, 0, ()), "silent - 0 age 0 count 0"),
    (("unkept", None, 0, (), 0, 0, ()), "unkept - 0 age 0 count 0"),
    (("written", None, 0, (), 0, 17, ()), "written - 0 age 0 count 17"),
    (("changed", "w3", 0, (), 0, 17, ()), "changed w3 0 age 0 count 17"),
    (("gone", None, 0, (), 4, 2, ((0, 1, 2),)), "gone - 0 age 4 count 2\nby 0.1.2"),
    (("same", "s1", 9, (), 4, 2, ((0, 1, 2), (10, 0, 33))), "same s1 9 age 4 count 2\nby 0.1.2 10.0.33"),
    (("beyond", "s0", 5, (), 0, 1, ()), "beyond s0 5 age 0 count 1"),
    (("whole", "s0", 5, ((0, "hello"),), 0, 1, ()), "whole s0 5 age 0 count 1\n0 hello"),
    (("part", "s0", 50, ((0, "he"), (3, "lo"), (10, " 1  x ")), 0, 1, ((3, 4, 5),)),
     "part s0 50 age 0 count 1\nby 3.4.5\n0 he\n3 lo\n10  1  x "),
    (("part", "s0", 50, ((7, " "), (9, "  "), (12, "by 1.2.3")), 0, 1, ()),
     "part s0 50 age 0 count 1\n7  \n9   \n12 by 1.2.3"),
    (("part", f"s{GREATEST}", HUNDRED, ((FAR, SIGNS), (HUNDRED, "x")), HUNDRED, HUNDRED,
      ((HUNDRED, HUNDRED, HUNDRED),)),
     f"part s{GREATEST} {HUNDRED} age {HUNDRED} count {HUNDRED}\nby {HUNDRED}.{HUNDRED}.{HUNDRED}\n{FAR} {SIGNS}\n{HUNDRED} x"),
    # Whether these go together is not looked at.
    (("gone", "s5", 3, ((9, "x"),), 1, 1, ()), "gone s5 3 age 1 count 1\n9 x"),
    (("silent", "w0", 3, (), 1, 1, ((0, 0, 0),)), "silent w0 3 age 1 count 1\nby 0.0.0"),
    (("whole", None, 0, (), 0, 0, ()), "whole - 0 age 0 count 0"),
]


class Shown(unittest.TestCase):
    def test_pages(self):
        for path, page, text in PAGES:
            self.assertEqual(show_page(path, page), text)

    def test_pages_are_read(self):
        for path, page, text in PAGES:
            read = read_page(text)
            self.assertEqual((type(read), type(read[1])), (tuple, Page))
            self.assertEqual((read[0], read[1].told()), (path, page.told()))

    def test_asks(self):
        for ask, text in ASKS:
            self.assertEqual(show_ask(ask), text)

    def test_asks_are_read(self):
        for ask, text in ASKS:
            read = read_ask(text)
            self.assertIs(type(read), Ask)
            self.assertEqual(read.told(), ask.told())

    def test_answers(self):
        for answer, text in ANSWERS:
            self.assertEqual(show_answer(answer), text)

    def test_answers_are_read(self):
        for answer, text in ANSWERS:
            read = read_answer(text)
            self.assertEqual(read, answer)
            self.assertEqual({type(row) for row in (read, read[3], read[6], *read[3], *read[6])}, {tuple})
            self.assertEqual([type(read[at]) for at in (2, 4, 5)], [int] * 3)

    def test_pages_with_more_than_is_bounded(self):
        long = Page("x" * 900, turns=["lang"], forms=[(["y"], "z" * 900)])
        self.assertEqual(read_page(show_page("a", long))[1].told(), long.told())


class Refused(unittest.TestCase):
    def refused(self, read, *texts):
        for text in texts:
            with self.subTest(text=text):
                with self.assertRaises(NoText) as caught:
                    read(text)
                self.assertIs(caught.exception.text, text)

    def test_pages(self):
        self.refused(read_page, "", "\n", "page", "page a", "page a\n", "text x", "gone", "\npage a\ngone",
                     "page a\ngone\n",
                     "page a\ntext", "page a\ntext x\n", "page a\nweak\nweak\ngone", "page \ngone", "page A\ngone",
                     "page a/\ngone", "page a b\ngone", " page a\ngone", "page  a\ngone", "page a \ngone",
                     "Page a\ngone",
                     "page a\npage a\ngone", "page a\ngone\ntext x", "page a\ntext x\ngone", "page a\ntext x\ntext x",
                     "page a\ngone ", "page a\nweak \ngone", "page a\nother\ngone", "page a\n\ngone", "gone\npage a",
                     "page a\ngone\nweak", "page aaaaaaaaa\ngone", "page a/b/c/d/e\ngone")

    def test_pages_with_rules(self):
        self.refused(read_page, "page a\nrule\ngone", "page a\nrule \ngone", "page a\nrule keep\ngone",
                     "page a\nrule keep 0\ngone",
                     "page a\nrule keep 5 \ngone", "page a\nrule keep 5,worn 2\ngone",
                     "page a\nrule worn 2, keep 5\ngone",
                     "page a\nrule keep 05\ngone", "page a\nrule other\ngone", "page a\nrule keep 5, keep 5\ngone",
                     "page a\nrule keep 5\nrule keep 5\ngone", "page a\nrule  keep 5\ngone",
                     "page a\nrule keep 5, \ngone",
                     f"page a\nrule keep {GREATEST + 1}\ngone", "page a\nrule firm\ngone", "page a\nrule Keep 5\ngone")

    def test_pages_with_turns_and_tags(self):
        for word in ("turns", "tags"):
            self.refused(read_page, f"page a\n{word}\ngone", f"page a\n{word} \ngone", f"page a\n{word} x x\ngone",
                         f"page a\n{word} x  y\ngone", f"page a\n{word} x \ngone", f"page a\n{word} X\ngone",
                         f"page a\n{word} x,y\ngone", f"page a\n{word} x\n{word} y\ngone",
                         f"page a\nweak\n{word} x\ngone",
                         f"page a\n{word} x\nrule keep 5\ngone", f"page a\ntext y\n{word} x")
        self.refused(read_page, "page a\ntags b a\ngone", "page a\ntags x\nturns y\ngone")

    def test_pages_with_forms(self):
        self.refused(read_page, "page a\ntext x\nform y z", "page a\nturns b\ngone\nform y z",
                     "page a\nturns b\ntext x\nform y",
                     "page a\nturns b\ntext x\nform", "page a\nturns b\ntext x\nform Y z",
                     "page a\nturns b\ntext x\nform y,y z",
                     "page a\nturns b c\ntext x\nform y z", "page a\nturns b\ntext x\nform y z\nform y w",
                     "page a\nturns b\nform y z\ntext x", "page a\nturns b\nform y z",
                     "page a\nturns b\ntext x\nform y z\nweak", "page a\nturns b\ntext x\nform aaaaaaaaaaaaa z")

    def test_asks(self):
        self.refused(read_ask, "", " ", "A", "a ", " a", "a  ", "a/", "a b", "a\n", "a\nb", "aaaaaaaaa", "a heads",
                     "a heads ",
                     "a heads b", "a heads b=", "a heads =c", "a heads b=c,", "a heads b=c,b=d", "a heads c=d,b=c",
                     "a heads b=C",
                     "a heads b=c=d", "a heads b=c  spans 0..1", "a heads b=c heads b=c", "a heads b=c,d=", "a spans",
                     "a spans ",
                     "a spans 0", "a spans 1..1", "a spans 0..5,", "a spans 0..5, 7..9", "a spans 00..5", "a when",
                     "a when ",
                     "a when x", "a when s", "a when s01", "a when s0,s1", "a unless", "a unless ", "a unless s0,",
                     "a unless s0 s1",
                     "a wish", "a wish ", "a wish  firm", "a wish firm ", "a wish firm,kept", "a wish firm, kept",
                     "a wish left 0",
                     "a wish other", "a wish keep 5", "a wish firm wish firm", "a wish firm when s0",
                     "a when s0 spans 0..1",
                     "a unless s0 when s1", "a spans 0..1 heads b=c", "a other x", "a other", "a wish atmost",
                     "a Wish firm",
                     f"a spans 0..{GREATEST + 1}", f"a when s{GREATEST + 1}", f"a wish left {GREATEST + 1}")

    def test_answers(self):
        self.refused(read_answer, "", "silent", "silent - 0 age 0 count", "silent - 0 age 0 count 0 ",
                     "silent  - 0 age 0 count 0",
                     "silent - 0 age 0 count 0\n", "silent - 0 Age 0 count 0", "silent - 0 age 0 counts 0",
                     "silent - 0 count 0 age 0",
                     "Silent - 0 age 0 count 0", "right - 0 age 0 count 0", "told - 0 age 0 count 0",
                     " - 0 age 0 count 0",
                     "silent  0 age 0 count 0", "silent -- 0 age 0 count 0", "silent s 0 age 0 count 0",
                     "silent s00 0 age 0 count 0",
                     "silent S0 0 age 0 count 0", "silent None 0 age 0 count 0",
                     f"same s{GREATEST + 1} 0 age 0 count 0",
                     "silent - 00 age 0 count 0", "silent - -1 age 0 count 0", "silent - 0 age 01 count 0",
                     "silent - 0 age 0 count x",
                     "silent - 0 age 0 count 1_0", "silent - 0 age +1 count 0", "silent - 0 age 0 count ")

    def test_numbers_of_more_than_a_hundred_figures(self):
        great = HUNDRED + 1
        self.refused(read_answer, f"silent - {great} age 0 count 0", f"silent - 0 age {great} count 0",
                     f"silent - 0 age 0 count {great}",
                     f"silent - 0 age 0 count 0\nby {great}.0.0", f"silent - 0 age 0 count 0\nby 0.0.{great}",
                     f"silent - 0 age 0 count 0\nby 0.{great}.0", f"silent - 0 age 0 count 0\n{great} x",
                     "silent - 0 age 0 count " + "9" * 5000, "silent - " + "9" * 5000 + " age 0 count 0")

    def test_grounds_and_parts(self):
        row = "silent - 0 age 0 count 0"
        self.refused(read_answer, *[f"{row}\n{more}" for more in (
            "by", "by ", "by 1", "by 1.2", "by 1.2.3.4", "by 1.2.3 ", "by  1.2.3", "by 1.2.3  1.2.3", "by 1.2.3,1.2.3",
            "by 1..3",
            "by 01.2.3", "by 1.2.x", "By 1.2.3", "by 1.2.3\nby 1.2.3", "0 x\nby 1.2.3", "by -1.2.3", "\n0 x", "0",
            "0 ", " x",
            "x", "00 x", "-1 x", "a x", "0 ab\n2 c", "0 ab\n1 c", "0 ab\n0 c", "5 x\n0 y", "0 ab\n\n5 c", "0 x\n1 y",
            "3 x\n3 x")])
        self.assertEqual(read_answer(f"{row}\n0 ab\n3 c")[3], ((0, "ab"), (3, "c")))

    def test_each_bears_its_text_and_is_no_other(self):
        for read in (read_page, read_ask, read_answer):
            self.refused(read, "nothing of this", "x\ny\nz", "%", "\u00e9")
        self.refused(read_page, *[text for ask, text in ASKS], *[text for answer, text in ANSWERS])
        self.refused(read_ask, *[text for path, page, text in PAGES], *[text for answer, text in ANSWERS])
        self.refused(read_answer, *[text for path, page, text in PAGES], *[text for ask, text in ASKS])


class OneSignOff(unittest.TestCase):
    """Each text that differs in one sign is read to what it shows, or refused with NoText, which bears it."""

    def check(self, read, show, text):
        try:
            found = read(text)
        except NoText as refusal:
            self.assertIs(refusal.text, text)
            return 0
        self.assertEqual(show(found), text)
        return 1

    def everywhere(self, text):
        """The texts with one sign put in, exchanged or taken out at each place, the sign one of few."""
        for at in range(len(text) + 1):
            for sign in "a0 ,.=\n-sZ/%":
                yield text[:at] + sign + text[at:]
                yield text[:at] + sign + text[at + 1:]
            yield text[:at] + text[at + 1:]

    def check_all(self, read, show, texts):
        read_ones = 0
        for text in texts:
            if len(text) < 250:
                for other in [*self.everywhere(text), *off_by_one(text)]:
                    read_ones += self.check(read, show, other)
        self.assertGreater(read_ones, 100)

    def test_pages(self):
        self.check_all(read_page, lambda found: show_page(*found), [text for path, page, text in PAGES])

    def test_asks(self):
        self.check_all(read_ask, show_ask, [text for ask, text in ASKS])

    def test_answers(self):
        self.check_all(read_answer, show_answer, [text for answer, text in ANSWERS])

    def test_every_sign_alone(self):
        for sign in ALPHABET:
            self.check(read_page, lambda found: show_page(*found), sign)
            self.check(read_ask, show_ask, sign)
            self.check(read_answer, show_answer, sign)


class Drawn(unittest.TestCase):
    def test_pages_and_asks_are_read_again_to_the_same(self):
        for seed in range(500):
            chance = random.Random(seed)
            page, ask = drawn_page(chance), drawn_ask(chance)
            path, read = read_page(show_page("x/y", page))
            self.assertEqual((path, read.told()), ("x/y", page.told()))
            self.assertEqual(read_ask(show_ask(ask)).told(), ask.told())

    def test_answers_are_read_again_to_the_same(self):
        for seed in range(300):
            chance = random.Random(seed)
            parts, at = [], 0
            for part in range(chance.randrange(4)):
                at += chance.randrange(1, 9)
                signs = "".join(chance.choice(SIGNS) for sign in range(chance.randrange(1, 6)))
                parts.append((at, signs))
                at += len(signs)
            numbers = [0, 7, 10, GREATEST]
            ground = tuple(tuple(chance.choices(numbers, k=3)) for link in range(chance.randrange(3)))
            answer = (chance.choice(["part", "gone", "written"]), chance.choice([None, "s0", "w12"]),
                      chance.randrange(50), tuple(parts), chance.randrange(50), chance.randrange(50), ground)
            self.assertEqual(read_answer(show_answer(answer)), answer)


if __name__ == "__main__":
    unittest.main()
