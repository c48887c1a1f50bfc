"""Point 37: the judge."""

import itertools
import random
import unittest

from pagelodge.asks import Ask
from pagelodge.judging import judge
from pagelodge.pages import Page
from pagelodge.settings import serves
from pagelodge.spans import cut, parts_of, stretches
from tests.samples import GREATEST, drawn_ask, drawn_page

ORDER = ["count", "moment", "mark", "size", "word", "parts", "age"]
RULE = "keep 3, alone 2"
# Deeds at the ticks 10, 20, 20, 30 and 40.
BOOK = [(10, "a", Page("Some text", rule=RULE)), (20, "b", Page("other", weak=True)), (20, "a", Page("Other text")),
        (30, None, None), (40, "a", Page(None, rule="keep 1"))]
ASK = Ask("a")
RIGHT = ("whole", "s0", 9, ((0, "Some text"),), 0, 1, ())


def changed(answer, **more):
    """An answer with other things in it."""
    names = ["word", "mark", "size", "parts", "age", "count", "ground"]
    return tuple(more.get(name, thing) for name, thing in zip(names, answer))


class Words(unittest.TestCase):
    def check(self, verdict, answer, asked=15, told=15, ask=ASK, book=BOOK):
        self.assertEqual(judge(book, asked, told, ask, answer), verdict)
        self.assertEqual(judge(tuple(book), asked, told, ask, answer), verdict)

    def test_right(self):
        self.check("right", RIGHT)
        self.check("right", changed(RIGHT, ground=((0, 0, 0), (1, 5, 0))))

    def test_other_words_are_right(self):
        for word in ("silent", "unkept", "written", "changed"):
            self.check("right", (word, "s99", -5, ((7, "x"),), -8, 99, ()), asked=9, told=3)
            self.check("right", (word, None, 0, (), 0, 0, ()), book=[])

    def test_count(self):
        for count in (-1, -GREATEST, 6, GREATEST):
            self.check("count", changed(RIGHT, count=count))
        self.check("count", changed(RIGHT, count=1), book=[])
        self.check("right", ("gone", None, 0, (), 0, 0, ()), book=[])

    def test_moment_by_telling_and_age(self):
        self.check("moment", RIGHT, asked=16, told=15)
        self.check("moment", changed(RIGHT, age=-1))
        self.check("moment", changed(RIGHT, age=-GREATEST))

    def test_moments_at_the_ends_of_the_stretches(self):
        # One deed was done from tick 10 to tick 20, both included; two and three at tick 20, three up to tick 30.
        for count, first, last in [(0, None, 10), (1, 10, 20), (2, 20, 20), (3, 20, 30), (4, 30, 40), (5, 40, None)]:
            for told, age in itertools.product(range(0, 60), (0, 1, 5, 12, 40, 100)):
                at_none = (first is not None and told < first) or (last is not None and told - age > last)
                verdict = judge(BOOK, told, told, ASK, ("gone", "x", 0, (), age, count, ()))
                self.assertEqual(verdict, "moment" if at_none else "mark", (count, told, age))

    def test_an_empty_book(self):
        for told, age in [(0, 0), (0, 50), (50, 0), (-9, 3)]:
            self.check("right", ("gone", None, 0, (), age, 0, ()), asked=told, told=told, book=[])

    def test_mark(self):
        for mark in ("s1", "w0", None, "s00", ""):
            self.check("mark", changed(RIGHT, mark=mark))
        self.check("mark", ("gone", "s0", 0, (), 0, 5, ()), asked=45, told=45)
        self.check("mark", ("gone", "s0", 0, (), 0, 0, ()), asked=5, told=5)
        self.check("mark", RIGHT, ask=Ask("c"))
        self.check("mark", RIGHT, ask=Ask("b"))

    def test_marks_are_told_by_the_book_up_to_there(self):
        page, other = Page("x", turns=["lang"], forms=[(["y"], "Y"), (["z"], "y")]), Page("y", weak=True)
        book = [(0, "b", Page("q")), (0, "a", page), (0, "a", other), (0, "a", page), (0, "a", Page("q"))]
        for count, heads, mark in [(2, {}, "s0"), (2, {"lang": "y"}, "s1"), (2, {"lang": "z"}, "s2"), (3, {}, "w1"),
                                   (4, {"lang": "z"}, "s2"), (5, {}, "s3"), (1, {}, None), (0, {}, None)]:
            ask = Ask("a", heads=heads, unless=["s0", "s1", "s2", "s3", "w1"])
            for told in ("s0", "s1", "s2", "s3", "w0", "w1", "w2", None):
                word = "gone" if mark is None else "same"
                answer = (word, told, 0 if mark is None else 1, (), 0, count, ())
                self.check("right" if told == mark else "mark", answer, ask=ask, book=book, asked=0, told=0)

    def test_size(self):
        for size in (8, 10, 0, -9, GREATEST):
            self.check("size", changed(RIGHT, size=size))
        self.check("size", ("gone", None, 1, (), 0, 5, ()), asked=45, told=45)
        self.check("size", ("gone", None, 9, (), 0, 0, ()), asked=5, told=5)
        self.check("right", ("gone", None, 0, (), 0, 5, ()), asked=45, told=45)

    def test_word(self):
        for more, right in [({}, "whole"), ({"unless": ["s0"]}, "same"), ({"spans": [(0, 4)]}, "part"),
                            ({"spans": [(9, 12)]}, "beyond"), ({"spans": [(0, 4)], "when": "s5"}, "whole"),
                            ({"spans": [(0, 4)], "when": "s0"}, "part"),
                            ({"unless": ["s0"], "spans": [(9, 12)]}, "same")]:
            parts = {"whole": ((0, "Some text"),), "part": ((0, "Some"),)}.get(right, ())
            for word in ("gone", "same", "whole", "beyond", "part"):
                answer = changed(RIGHT, word=word, parts=parts)
                self.check("right" if word == right else "word", answer, ask=Ask("a", **more))
        for word in ("same", "whole", "beyond", "part"):
            self.check("word", (word, None, 0, (), 0, 5, ()), asked=45, told=45)
            self.check("word", (word, None, 0, (), 0, 0, ()), asked=5, told=5)

    def test_parts(self):
        for parts in ((), ((0, "Some"),), ((0, "some text"),), ((0, "Some texT"),), ((0, "Some "), (5, "text")),
                      ((1, "Some text"),), ((0, "Some text"), (20, "x")), ((0, "Some text."),)):
            self.check("parts", changed(RIGHT, parts=parts))
        ask = Ask("a", spans=[(0, 2), (5, 7)])
        part = changed(RIGHT, word="part")
        self.check("right", changed(part, parts=((0, "So"), (5, "te"))), ask=ask)
        for parts in ((), ((0, "So"),), ((5, "te"), (0, "So")), ((0, "Some te"),), ((0, "Some text"),),
                      ((0, "So"), (5, "tE"))):
            self.check("parts", changed(part, parts=parts), ask=ask)
        for more, word in [({"unless": ["s0"]}, "same"), ({"spans": [(9, 12)]}, "beyond")]:
            self.check("parts", changed(RIGHT, word=word), ask=Ask("a", **more))
            self.check("parts", changed(RIGHT, word=word, parts=((0, "S"),)), ask=Ask("a", **more))
        self.check("parts", ("gone", None, 0, ((0, "x"),), 0, 5, ()), asked=45, told=45)

    def test_with_a_weak_mark_capitals_do_not_count(self):
        ask, part = Ask("b"), Ask("b", spans=[(1, 3)])
        for text in ("other", "Other", "OTHER", "oTHeR"):
            answer = ("whole", "w0", 5, ((0, text),), 0, 2, ())
            self.check("right", answer, ask=ask, asked=20, told=20)
            self.check("right", changed(answer, word="part", parts=((1, text[1:3]),)), ask=part, asked=20, told=20)
        for parts in (((0, "othex"),), ((0, "othe"),), ((1, "other"),), (), ((0, "oth"), (3, "er"))):
            self.check("parts", ("whole", "w0", 5, parts, 0, 2, ()), ask=ask, asked=20, told=20)
        self.check("mark", ("whole", "s0", 5, ((0, "other"),), 0, 2, ()), ask=ask, asked=20, told=20)

    def test_age(self):
        # After one deed the page stood up to tick 20; where no answer comes its rule lets it up to an age of 4.
        for told_age in range(0, 9):
            asked = 20 + told_age
            for told in (asked, asked + 7):
                right = told_age < 5
                self.check("right" if right else "age", changed(RIGHT, age=told - 15), asked=asked, told=told)
                self.check("right" if right else "age", changed(RIGHT, age=told - 20), asked=asked, told=told)

    def test_the_wish_counts(self):
        for wish, verdicts in [("", "rrrrraa"), ("firm", "rrraaaa"), ("atmost 1", "rraaaaa"), ("left 1", "rraaaaa"),
                               ("worn 3", "rrrrrra"), ("anew", "raaaaaa"), ("kept", "rrrrraa")]:
            for late, letter in enumerate(verdicts):
                ask = Ask("a", wish=wish)
                self.check({"r": "right", "a": "age"}[letter], changed(RIGHT, age=late), asked=20 + late,
                           told=20 + late, ask=ask)

    def test_not_before_the_asking(self):
        # The moment may be any one of those ticks: where the latest is not before the asking, nothing else counts.
        strict = Ask("a", wish="anew, atmost 0")
        for asked, told, age in [(20, 20, 0), (15, 15, 0), (12, 20, 15), (20, 90, 70), (10, 10, 0), (12, 14, 0),
                                 (5, 12, 2)]:
            self.check("right", changed(RIGHT, age=age), asked=asked, told=told, ask=strict)
        self.check("age", changed(RIGHT, age=5), asked=21, told=25, ask=strict)
        self.check("right", changed(RIGHT, age=0), asked=15, told=15, ask=strict)

    def test_where_there_is_no_page(self):
        gone = ("gone", None, 0, (), 3, 0, ())
        self.check("right", gone, asked=10, told=13)
        # A rule of which nothing is told lets nothing be served.
        self.check("age", changed(gone, age=3), asked=11, told=13)
        self.check("right", gone, asked=11, told=13, ask=Ask("a", wish="worn 2"))
        self.check("right", ("gone", None, 0, (), 5, 5, ()), asked=45, told=45)

    def test_a_page_that_is_gone_has_its_rule(self):
        book = BOOK + [(50, None, None)]
        gone = ("gone", None, 0, (), 1, 5, ())
        self.check("right", gone, asked=50, told=51, book=book)
        self.check("age", changed(gone, age=5), asked=51, told=55, book=book)
        book[4] = (40, "a", Page(None, rule="keep 1, alone 1"))
        self.check("right", changed(gone, age=5), asked=51, told=55, book=book)
        self.check("age", changed(gone, age=5), asked=52, told=55, book=book)


class TwoAtOnce(unittest.TestCase):
    def test_the_first_that_is_so(self):
        # At tick 30, ten ticks after the page was written anew, the age is wrong in any case.
        wrong = {"count": {"count": 6}, "mark": {"mark": "s9"}, "size": {"size": 8}, "word": {"word": "part"},
                 "parts": {"parts": ()}}
        old = changed(RIGHT, age=10)
        self.assertEqual(judge(BOOK, 30, 30, ASK, old), "age")
        for many in range(1, 5):
            for names in itertools.combinations(["count", "mark", "size", "word", "parts"], many):
                more = {name: thing for each in names for name, thing in wrong[each].items()}
                for answer, asked in [(RIGHT, 15), (old, 30)]:
                    self.assertEqual(judge(BOOK, asked, asked, ASK, changed(answer, **more)), names[0])
                first = "count" if names[0] == "count" else "moment"
                self.assertEqual(judge(BOOK, 15, 14, ASK, changed(RIGHT, **more)), first)
                self.assertEqual(judge(BOOK, 15, 15, ASK, changed(RIGHT, age=-1, **more)), first)
                self.assertEqual(judge(BOOK, 22, 22, ASK, changed(RIGHT, age=1, **more)), first)


def modelled(book, asked, told, ask, answer):
    """All the words of point 37 that are so, in their order; ticks are looked at one by one."""
    word, mark, size, parts, age, count, ground = answer
    if word not in ("gone", "same", "whole", "beyond", "part"):
        return ["right"]
    if not 0 <= count <= len(book):
        return ["count"]
    first, last = book[count - 1][0] if count else None, book[count][0] if count < len(book) else None
    ticks = [tick for tick in range(told - age, told + 1)
             if (first is None or tick >= first) and (last is None or tick <= last)]
    if told < asked or age < 0 or not ticks:
        return ["moment"]
    pages = [page for tick, path, page in book[:count] if path == ask.path]
    text = pages[-1].text_for(ask.heads) if pages else None
    right_mark = None
    if text is not None:
        small = str.lower if pages[-1].weak else str
        texts = [small(each) for page in pages if page.text is not None
                 for each in [page.text] + [form[1] for form in page.forms]]
        right_mark = ("w" if pages[-1].weak else "s") + str(list(dict.fromkeys(texts)).index(small(text)))
    right_size = len(text or "")
    whole = not ask.spans or (ask.when is not None and (ask.when[0] == "w" or ask.when != right_mark))
    wanted = stretches([] if whole else ask.spans, right_size)
    words = [("gone", text is None), ("same", right_mark in ask.unless), ("whole", whole), ("beyond", not wanted),
             ("part", True)]
    right_word = [each for each, so in words if so][0]
    right_parts = tuple(cut(parts_of(text), wanted)) if right_word in ("whole", "part") else ()
    alike = parts == right_parts
    if right_mark and right_mark[0] == "w":
        alike = [(start, signs.lower()) for start, signs in parts] == [(start, signs.lower()) for start,
                                                                       signs in right_parts]
    rule = pages[-1].rule if pages else Page("").rule
    late = ticks[-1] < asked and not serves(rule, ask.wish, asked - ticks[-1], alone=True)
    sentences = [("mark", mark != right_mark), ("size", size != right_size), ("word", word != right_word),
                 ("parts", not alike), ("age", late), ("right", True)]
    return [each for each, so in sentences if so]


class Drawn(unittest.TestCase):
    def drawn_book(self, chance):
        tick, book = 0, []
        for deed in range(chance.randrange(8)):
            tick += chance.randrange(4)
            book.append((tick, None, None) if chance.random() < 0.2 else (tick, chance.choice("ab"),
                                                                          drawn_page(chance)))
        return book

    def drawn_answer(self, chance, book, ask, told):
        """An answer out of the book that may be right, with something in it changed now and then."""
        count = chance.randrange(len(book) + 1)
        pages = [page for tick, path, page in book[:count] if path == ask.path]
        text = pages[-1].text_for(ask.heads) if pages else None
        mark = None if text is None else chance.choice("ssw") + chance.choice("00012")
        size = len(text or "")
        word = ask.word_for(mark, size)
        parts = tuple(cut(parts_of(text), ask.wanted(mark, size))) if word in ("whole", "part") else ()
        if chance.random() < 0.3:
            parts = tuple((start, signs.swapcase()) for start, signs in parts)
        answer = (word, mark, size, parts, chance.randrange(0, 9), count, ())
        change = [{}, {}, {}, {"count": chance.randrange(-1, 9)}, {"age": -1}, {"size": size + 1},
                  {"word": chance.choice(["gone", "same", "whole", "beyond", "part", "silent"])},
                  {"parts": ((0, "S"),)}]
        return changed(answer, **chance.choice(change))

    def test_against_the_model(self):
        found = {}
        for seed in range(6000):
            chance = random.Random(seed)
            book, ask = self.drawn_book(chance), drawn_ask(chance)
            asked = chance.randrange(12)
            told = asked + chance.randrange(-1, 5)
            answer = self.drawn_answer(chance, book, ask, told)
            verdict = judge(book, asked, told, ask, answer)
            self.assertEqual(verdict, modelled(book, asked, told, ask, answer)[0], seed)
            found[verdict] = found.get(verdict, 0) + 1
        for word in ORDER + ["right"]:
            self.assertGreater(found[word], 20, word)

    def test_what_the_book_tells_behind_the_telling_changes_nothing(self):
        for seed in range(1500):
            chance = random.Random(seed)
            book, ask = self.drawn_book(chance), drawn_ask(chance)
            asked = chance.randrange(9)
            told = asked + chance.randrange(5)
            up_to = [deed for deed in book if deed[0] <= told]
            answer = self.drawn_answer(chance, up_to, ask, told)
            if answer[5] <= len(up_to):
                self.assertEqual(judge(book, asked, told, ask, answer), judge(up_to, asked, told, ask, answer))

    def test_nothing_handed_in_is_changed(self):
        book = list(BOOK)
        before = ASK.told(), [page.told() for tick, path, page in BOOK if page is not None]
        judge(book, 15, 15, ASK, RIGHT)
        self.assertEqual(book, BOOK)
        self.assertEqual((ASK.told(), [page.told() for tick, path, page in book if page is not None]), before)

    def test_numbers_of_sixty_figures_and_more(self):
        book = [(GREATEST, "a", Page("x", rule=f"keep {GREATEST}")), (2 * GREATEST, None, None)]
        answer = ("whole", "s0", 1, ((0, "x"),), 3 * GREATEST, 1, ())
        self.assertEqual(judge(book, 3 * GREATEST - 1, 4 * GREATEST, Ask("a"), answer), "right")
        self.assertEqual(judge(book, 3 * GREATEST, 4 * GREATEST, Ask("a"), answer), "age")


if __name__ == "__main__":
    unittest.main()
