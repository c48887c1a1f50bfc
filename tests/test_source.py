"""Points 16 and 20: the source, its marks, what it answers and its book."""

import itertools
import random
import unittest

from pagelodge.asks import Answer, Ask
from pagelodge.errors import NoAsk, NoPage
from pagelodge.pages import Page
from pagelodge.settings import Rule
from pagelodge.source import Source
from pagelodge.words import heads_row
from tests.samples import GREATEST, RULE_FIELDS, expected_fields, rule_fields

PATHS = ["a", "a/b", "news/today"]


def texts_of(page):
    return [] if page.text is None else [page.text] + [text for worths, text in page.forms]


class Model:
    """Points 16 and 20 by their words: everything is worked out anew from the row of pages written."""

    def __init__(self):
        self.written = []
        self.count = 0

    def write(self, path, page):
        self.count += 1
        self.written.append((path, page))

    def page_at(self, path):
        pages = [page for written, page in self.written if written == path]
        return pages[-1] if pages else None

    def mark_for(self, path, heads):
        page = self.page_at(path)
        text = None if page is None else page.text_for(heads)
        if text is None:
            return None
        texts = [each for written, other in self.written if written == path for each in texts_of(other)]
        if page.weak:
            texts, text = [each.lower() for each in texts], text.lower()
        unlike = list(dict.fromkeys(texts))
        return ("w" if page.weak else "s") + str(unlike.index(text))


def drawn_page(chance):
    """A page of few texts, so that they come again, and come alike but for their capitals."""
    texts = ["", "one", "One", "ONE", "two", "tWo", "a 1!", "A 1!"]
    if chance.random() < 0.1:
        return Page(None, turns=["lang"], rule="keep 1", weak=chance.random() < 0.5)
    forms = [([worth], chance.choice(texts)) for worth in chance.sample(["", "x", "y", "z"], chance.randrange(4))]
    return Page(chance.choice(texts), turns=["lang"], forms=forms, weak=chance.random() < 0.5)


class Marks(unittest.TestCase):
    def marks(self, path, pages, heads=()):
        source = Source()
        told = []
        for page in pages:
            source.write(path, page)
            told.append(source.mark_for(path, heads))
        return told

    def test_strong_ones(self):
        texts = ["x", "y", "x", "X", "", "y", "z", "", "X"]
        self.assertEqual(self.marks("a", [Page(text) for text in texts]),
                         ["s0", "s1", "s0", "s2", "s3", "s1", "s4", "s3", "s2"])

    def test_weak_ones(self):
        texts = ["x", "y", "X", "Y", "", "xY", "z", "XY", "x"]
        self.assertEqual(self.marks("a", [Page(text, weak=True) for text in texts]),
                         ["w0", "w1", "w0", "w1", "w2", "w3", "w4", "w3", "w0"])

    def test_each_text_goes_into_both_numberings(self):
        pages = [Page("x"), Page("X"), Page("y", weak=True), Page("x", weak=True), Page("Y"), Page("z"),
                 Page("Z", weak=True), Page("y")]
        self.assertEqual(self.marks("a", pages), ["s0", "s1", "w1", "w0", "s3", "s4", "w2", "s2"])

    def test_a_pages_own_text_first_then_those_of_its_forms(self):
        forms = [(["c"], "third"), (["a"], "first"), (["b"], "own"), (["d"], "Third")]
        heads = [(), (("lang", "c"),), (("lang", "a"),), (("lang", "b"),), (("lang", "d"),), (("lang", "e"),)]
        for weak, expected in [(False, ["s0", "s1", "s2", "s0", "s3", "s0"]),
                               (True, ["w0", "w1", "w2", "w0", "w1", "w0"])]:
            source = Source()
            source.write("a", Page("own", turns=["lang"], forms=forms, weak=weak))
            self.assertEqual([source.mark_for("a", row) for row in heads], expected)
            self.assertEqual([source.mark_for("a", list(row)) for row in heads], expected)

    def test_texts_that_came_before_keep_their_numbers(self):
        source = Source()
        source.write("a", Page("p", turns=["lang"], forms=[(["x"], "q")]))
        source.write("a", Page("r", turns=["lang"], forms=[(["x"], "p"), (["y"], "Q")]))
        self.assertEqual([source.mark_for("a", row) for row in ((), [("lang", "x")], [("lang", "y")])],
                         ["s2", "s0", "s3"])
        source.write("a", Page("Q", weak=True))
        self.assertEqual(source.mark_for("a", ()), "w1")
        source.write("a", Page("q"))
        self.assertEqual(source.mark_for("a", ()), "s1")

    def test_each_path_has_its_own_numbers(self):
        source = Source()
        for path, text in [("a", "x"), ("a/b", "y"), ("a", "y"), ("a/b", "x"), ("b", "x")]:
            source.write(path, Page(text))
        self.assertEqual([source.mark_for(path, ()) for path in ("a", "a/b", "b", "c", "a/b/c")],
                         ["s1", "s1", "s0", None, None])

    def test_a_page_that_is_gone(self):
        source = Source()
        self.assertIsNone(source.mark_for("a", ()))
        for page, mark in [(Page("x"), "s0"), (Page(None), None), (Page("y"), "s1"), (Page(None, weak=True), None),
                           (Page("X", weak=True), "w0"), (Page("x"), "s0")]:
            source.write("a", page)
            self.assertEqual(source.mark_for("a", ()), mark)
            self.assertEqual(source.mark_for("a", [("who", "x")]), mark)

    def test_more_than_ten_texts(self):
        pages = [Page(f"text {at}", weak=at in (11, 12)) for at in range(13)]
        self.assertEqual(self.marks("a", pages), [f"s{at}" for at in range(11)] + ["w11", "w12"])

    def test_only_letters_have_capitals(self):
        texts = ["a[", "A{", "a{", "@", "`", "A["]
        self.assertEqual(self.marks("a", [Page(text, weak=True) for text in texts]),
                         ["w0", "w1", "w1", "w2", "w3", "w0"])
        alphabet = "".join(chr(code) for code in range(32, 127) if chr(code) != "%")
        self.assertEqual(self.marks("a", [Page(alphabet, weak=True), Page(alphabet.upper(), weak=True),
                                          Page(alphabet.lower(), weak=True)]), ["w0", "w0", "w0"])

    def test_what_was_not_written_is_not_numbered(self):
        source = Source()
        source.write("a", Page("x"))
        source.write("a", Page("y", turns=["lang"], forms=[(["x"], "z")]), on="s7")
        source.write("a", Page("w"), by=(0, 0))
        source.write("a", Page("v"), by=(0, 0))
        source.answer(Ask("a", unless=["s5"], when="s6"))
        source.take_back(paths=["a"])
        source.write("a", Page("z"))
        self.assertEqual(source.mark_for("a", ()), "s2")

    def test_asking_for_marks_changes_nothing(self):
        source = Source()
        for at in range(3):
            self.assertIsNone(source.mark_for("a", ()))
            self.assertIsNone(source.page_at("a"))
        self.assertEqual((source.count, source.book()), (0, []))

    def test_drawn_writings_at_several_paths(self):
        rows = [heads_row({"lang": worth}) for worth in ("", "x", "y", "z", "other")]
        for seed in range(40):
            chance = random.Random(seed)
            source, model = Source(), Model()
            told = {}
            for deed in range(25):
                path, page = chance.choice(PATHS), drawn_page(chance)
                source.write(path, page)
                model.write(path, page)
                for each, row in itertools.product(PATHS, rows):
                    mark = source.mark_for(each, row)
                    self.assertEqual(mark, model.mark_for(each, row))
                    if mark is not None:
                        text = source.page_at(each).text_for(row)
                        alike = text if mark[0] == "s" else text.lower()
                        self.assertEqual(told.setdefault((each, mark), alike), alike)


class Writing(unittest.TestCase):
    def check_told(self, answer, word, mark, count):
        self.assertIs(type(answer), Answer)
        self.assertEqual(answer.told(), (word, mark, 0, (), 0, count, ()))
        self.assertEqual((answer.turns, answer.tags), ((), ()))
        self.assertEqual(rule_fields(answer.rule), expected_fields(RULE_FIELDS, {}))

    def test_the_count(self):
        source = Source()
        self.assertEqual((type(source.count), source.count), (int, 0))
        for count, page in enumerate([Page("x"), Page("x"), Page(None), Page("y", rule="keep 5", tags=["t"])], start=1):
            self.check_told(source.write("a", page), "written", None, count)
            self.assertEqual(source.count, count)
            self.assertIs(source.page_at("a"), page)

    def test_in_the_place_of_what_stood_there(self):
        source = Source()
        first, second, third = Page("x"), Page("y"), Page("z")
        source.write("a", first)
        source.write("a/b", second)
        self.assertIs(source.page_at("a"), first)
        source.write("a", third)
        self.assertIs(source.page_at("a"), third)
        self.assertIs(source.page_at("a/b"), second)
        self.assertIsNone(source.page_at("b"))

    def test_on_the_mark_that_it_has(self):
        source = Source()
        source.write("a", Page("x"))
        self.check_told(source.write("a", Page("y"), on="s0"), "written", None, 2)
        self.check_told(source.write("a", Page("Y", weak=True), on="s1"), "written", None, 3)
        self.check_told(source.write("a", Page("x"), on="w1"), "written", None, 4)
        self.check_told(source.write("a", Page(None), on="s0"), "written", None, 5)

    def test_on_another_mark(self):
        source = Source()
        page = Page("x", rule="keep 5", turns=["who"], tags=["t"])
        source.write("a", page)
        source.write("b", Page("y", weak=True))
        for on in ("s1", "w0", "s10", "s" + "9" * 60):
            self.check_told(source.write("a", Page("z"), on=on), "changed", "s0", 2)
        for on in ("w1", "s0"):
            self.check_told(source.write("b", Page("z"), on=on), "changed", "w0", 2)
        self.assertIs(source.page_at("a"), page)
        self.assertEqual((source.count, len(source.book())), (2, 2))

    def test_on_where_there_is_no_mark(self):
        source = Source()
        self.check_told(source.write("a", Page("z"), on="s0"), "changed", None, 0)
        self.assertEqual((source.count, source.book(), source.page_at("a")), (0, [], None))
        source.write("a", Page("x"))
        gone = Page(None)
        source.write("a", gone)
        self.check_told(source.write("a", Page("x"), on="s0"), "changed", None, 2)
        self.assertIs(source.page_at("a"), gone)
        self.check_told(source.write("a", Page("x")), "written", None, 3)

    def test_on_is_held_against_the_mark_for_no_heads(self):
        source = Source()
        page = Page("own", turns=["lang"], forms=[(["x"], "form"), ([""], "none")])
        source.write("a", page)
        for on in ("s0", "s1"):
            self.check_told(source.write("a", Page("new"), on=on), "changed", "s2", 1)
        self.check_told(source.write("a", Page("new"), on="s2"), "written", None, 2)

    def test_by_handed_in_again(self):
        source = Source()
        page = Page("x")
        self.check_told(source.write("a", page, by=(0, 3)), "written", None, 1)
        self.check_told(source.write("a", page, by=(0, 3)), "written", None, 1)
        source.write("a", Page("y"))
        for path, other, on in [("a", page, None), ("b", Page("z"), None), ("a", Page(None), "s7"), ("c", page, "s0")]:
            self.check_told(source.write(path, other, on=on, by=(0, 3)), "written", None, 1)
        self.assertEqual((source.count, [path for path, each in source.book()]), (2, ["a", "a"]))
        self.assertEqual(source.page_at("a").text, "y")
        self.assertIsNone(source.page_at("b"))

    def test_by_that_was_answered_changed(self):
        source = Source()
        source.write("a", Page("x"))
        self.check_told(source.write("a", Page("y"), on="s9", by=(1, 0)), "changed", "s0", 1)
        source.write("a", Page("z"))
        for on in ("s9", "s1", None):
            self.check_told(source.write("a", Page("y"), on=on, by=(1, 0)), "changed", "s0", 1)
        self.assertEqual((source.count, source.page_at("a").text), (2, "z"))
        self.check_told(source.write("q", Page("y"), on="s0", by=(1, 1)), "changed", None, 2)
        source.write("q", Page("y"))
        self.check_told(source.write("q", Page("y"), on="s0", by=(1, 1)), "changed", None, 2)

    def test_by_that_differs(self):
        source = Source()
        bys = [(0, 1), (1, 0), (0, 0), (1, 1), (GREATEST, 0), (0, GREATEST), (-1, 0)]
        for count, by in enumerate(bys, start=1):
            self.check_told(source.write("a", Page("x"), by=by), "written", None, count)
        for count, by in enumerate(bys, start=1):
            self.check_told(source.write("a", Page("x"), by=tuple(list(by))), "written", None, count)
        self.assertEqual(source.count, len(bys))

    def test_with_no_by_each_writing_is_done(self):
        source = Source()
        for count in range(1, 5):
            self.check_told(source.write("a", Page("x"), by=None), "written", None, count)

    def test_names_are_handed_in_by_name_alone(self):
        self.assertRaises(TypeError, Source().write, "a", Page("x"), "s0")
        self.assertRaises(TypeError, Source().take_back, ["a"])
        self.assertRaises(TypeError, Source, 0)

    def test_two_sources_have_nothing_in_common(self):
        one, other = Source(), Source()
        one.write("a", Page("x"), by=(0, 0))
        self.assertEqual((other.count, other.book(), other.page_at("a")), (0, [], None))
        other.write("a", Page("y"), by=(0, 0))
        self.assertEqual((one.page_at("a").text, other.page_at("a").text, other.mark_for("a", ())), ("x", "y", "s0"))


class TakingBack(unittest.TestCase):
    def test_it_counts_and_does_nothing_to_the_pages(self):
        source = Source()
        page = Page("x", tags=["t"])
        source.write("a", page)
        before = source.answer(Ask("a"))
        for count, names in enumerate([{"paths": ["a"]}, {"tags": ("t",)}, {"paths": ("a", "b"), "tags": ["t"]}, {}],
                                      start=2):
            told = source.take_back(**names)
            self.assertEqual((type(told), told, source.count), (int, count, count))
            self.assertIs(source.page_at("a"), page)
            self.assertEqual(source.mark_for("a", ()), "s0")
            self.assertEqual(source.answer(Ask("a")).told(), (*before.told()[:5], count, ()))
        self.assertEqual(source.book(), [("a", page)] + [(None, None)] * 4)

    def test_ahead_of_any_writing(self):
        source = Source()
        self.assertEqual(source.take_back(paths=["a"]), 1)
        self.assertEqual(source.book(), [(None, None)])
        self.assertEqual(source.answer(Ask("a")).told(), ("gone", None, 0, (), 0, 1, ()))
        self.assertEqual(source.write("a", Page("x")).count, 2)

    def test_rows_handed_in_are_not_changed(self):
        paths, tags = ["b", "a"], ["d", "c"]
        Source().take_back(paths=paths, tags=tags)
        self.assertEqual((paths, tags), (["b", "a"], ["d", "c"]))


class Answering(unittest.TestCase):
    def setUp(self):
        self.source = Source()
        self.source.write("other", Page("o"))
        self.source.write("a", Page("Hello, world", rule="own, keep 5", turns=["lang", "who"], tags=["z", "b"],
                                    forms=[(["de", ""], "Hallo"), (["", "x"], "")]))

    def check(self, ask, word, mark, size, parts):
        for deed in range(2):
            answer = self.source.answer(ask)
            self.assertIs(type(answer), Answer)
            self.assertEqual(answer.told(), (word, mark, size, tuple(parts), 0, self.source.count, ()))
            self.assertEqual((answer.turns, answer.tags), (("lang", "who"), ("b", "z")))
            self.assertEqual(rule_fields(answer.rule), expected_fields(RULE_FIELDS, {"keep": 5, "own": True}))
            self.source.take_back()

    def test_out_of_the_page_for_its_heads(self):
        self.check(Ask("a"), "whole", "s0", 12, [(0, "Hello, world")])
        self.check(Ask("a", heads={"lang": "de"}), "whole", "s1", 5, [(0, "Hallo")])
        self.check(Ask("a", heads={"who": "x"}), "whole", "s2", 0, [])
        self.check(Ask("a", heads={"lang": "de", "who": "x"}), "whole", "s0", 12, [(0, "Hello, world")])
        self.check(Ask("a", heads={"more": "x", "lang": ""}), "whole", "s0", 12, [(0, "Hello, world")])

    def test_by_its_spans_and_marks(self):
        self.check(Ask("a", spans=[(0, 2), (None, 3)]), "part", "s0", 12, [(0, "He"), (9, "rld")])
        self.check(Ask("a", spans=[(4, None)], heads={"lang": "de"}), "part", "s1", 5, [(4, "o")])
        self.check(Ask("a", spans=[(5, None)], heads={"lang": "de"}), "beyond", "s1", 5, [])
        self.check(Ask("a", spans=[(0, 2)], heads={"who": "x"}), "beyond", "s2", 0, [])
        self.check(Ask("a", spans=[(0, 2)], when="s0"), "part", "s0", 12, [(0, "He")])
        self.check(Ask("a", spans=[(0, 2)], when="s1"), "whole", "s0", 12, [(0, "Hello, world")])
        self.check(Ask("a", unless=["s1", "s0"]), "same", "s0", 12, [])
        self.check(Ask("a", unless=["s0"], heads={"lang": "de"}), "whole", "s1", 5, [(0, "Hallo")])
        self.check(Ask("a", wish="kept, atmost 0"), "whole", "s0", 12, [(0, "Hello, world")])

    def test_a_weak_page(self):
        self.source.write("a", Page("HELLO, world", weak=True, rule="keep 5, own", turns=["lang", "who"],
                                    tags=["b", "z"]))
        self.check(Ask("a"), "whole", "w0", 12, [(0, "HELLO, world")])
        self.check(Ask("a", unless=["w0"]), "same", "w0", 12, [])
        self.check(Ask("a", unless=["s0"], spans=[(1, 3)]), "part", "w0", 12, [(1, "EL")])
        self.check(Ask("a", spans=[(1, 3)], when="w0"), "whole", "w0", 12, [(0, "HELLO, world")])

    def test_a_page_that_is_gone(self):
        self.source.write("a", Page(None, rule="keep 5, own", turns=["lang", "who"], tags=["b", "z"]))
        for ask in (Ask("a"), Ask("a", spans=[(0, 1)], unless=["s0"], when="s0", heads={"lang": "de"})):
            self.check(ask, "gone", None, 0, [])

    def test_where_never_a_page_was_written(self):
        for path in ("b", "a/b", "othe"):
            answer = self.source.answer(Ask(path, spans=[(0, 1)], unless=["s0"]))
            self.assertEqual(answer.told(), ("gone", None, 0, (), 0, 2, ()))
            self.assertEqual((answer.turns, answer.tags), ((), ()))
            self.assertIs(type(answer.rule), Rule)
            self.assertEqual(rule_fields(answer.rule), expected_fields(RULE_FIELDS, {}))
        self.assertEqual(Source().answer(Ask("b")).told(), ("gone", None, 0, (), 0, 0, ()))

    def test_the_page_as_it_is_now(self):
        self.source.write("a", Page("new"))
        answer = self.source.answer(Ask("a", heads={"lang": "de"}))
        self.assertEqual(answer.told(), ("whole", "s3", 3, ((0, "new"),), 0, 3, ()))
        self.assertEqual((answer.rule.spelled(), answer.turns, answer.tags), ("", (), ()))
        self.source.write("a", Page("newer"), on="s0")
        self.assertEqual(self.source.answer(Ask("a")).told(), answer.told())

    def test_asking_changes_nothing(self):
        ask = Ask("a", heads={"lang": "de"}, spans=[(0, 2)])
        told, page = ask.told(), self.source.page_at("a").told()
        book = self.source.book()
        self.source.answer(ask)
        self.assertEqual((ask.told(), self.source.page_at("a").told()), (told, page))
        self.assertEqual((self.source.count, self.source.book()), (2, book))

    def test_a_text_of_two_hundred_signs(self):
        text = "".join(chr(32 + at % 95).replace("%", "-") for at in range(200))
        self.source.write("b", Page(text))
        self.assertEqual(self.source.answer(Ask("b")).told()[:4], ("whole", "s0", 200, ((0, text),)))
        self.assertEqual(self.source.answer(Ask("b", spans=[(None, 1), (GREATEST, None)])).parts, ((199, text[199]),))


class Book(unittest.TestCase):
    def test_in_order_with_the_pages_themselves(self):
        source = Source()
        pages = [Page("x"), Page("x"), Page(None), Page("y", turns=["a"])]
        self.assertEqual(source.book(), [])
        source.write("b", pages[0])
        source.write("a", pages[1], by=(0, 0))
        source.take_back(paths=["b"])
        source.write("b", Page("not"), on="s5")
        source.write("b", Page("not"), by=(0, 0))
        source.write("b", pages[2], on="s0")
        source.take_back(tags=["t"])
        source.write("a", pages[3])
        source.write("a", pages[0])
        book = source.book()
        self.assertIs(type(book), list)
        self.assertEqual({type(deed) for deed in book}, {tuple})
        self.assertEqual([path for path, page in book], ["b", "a", None, "b", None, "a", "a"])
        for (path, page), expected in zip(book, [pages[0], pages[1], None, pages[2], None, pages[3], pages[0]]):
            self.assertIs(page, expected)
        self.assertEqual(len(book), source.count)

    def test_a_new_list_each_time(self):
        source = Source()
        source.write("a", Page("x"))
        book = source.book()
        again = source.book()
        self.assertIsNot(book, again)
        book.append("spoiled")
        book[0] = "spoiled"
        self.assertEqual(len(again), 1)
        self.assertEqual([path for path, page in source.book()], ["a"])
        source.write("b", Page("y"))
        self.assertEqual((len(again), len(source.book())), (1, 2))

    def test_pages_are_not_changed(self):
        source = Source()
        page = Page("x", rule="keep 5", turns=["a"], forms=[(["y"], "X")], tags=["c", "b"], weak=True)
        before = page.told()
        source.write("a", page, on=None, by=(0, 0))
        source.write("b", page)
        source.write("b", page, on="s5")
        source.answer(Ask("a", heads={"a": "y"}))
        source.take_back(paths=["a"], tags=["b"])
        self.assertEqual(page.told(), before)

    def test_what_is_refused_on_the_way_leaves_the_source_as_it_is(self):
        source = Source()
        source.write("a", Page("x"))
        with self.assertRaises(NoPage):
            source.write("a", Page("y", turns=["a", "a"]))
        with self.assertRaises(NoAsk):
            source.answer(Ask("A"))
        self.assertEqual((source.count, source.page_at("a").text, len(source.book())), (1, "x", 1))

    def test_many_deeds_in_a_drawn_order(self):
        for seed in range(20):
            chance = random.Random(seed)
            source, model, replies, deeds = Source(), Model(), {}, []
            for deed in range(60):
                path, page = chance.choice(PATHS), drawn_page(chance)
                on = chance.choice([None, None, "s0", "s1", "w0", source.mark_for(path, ())])
                by = chance.choice([None, (chance.randrange(3), chance.randrange(4))])
                mark = model.mark_for(path, ())
                told = source.write(path, page, on=on, by=by).told()
                if by in replies:
                    expected = replies[by]
                elif on is not None and on != mark:
                    expected = ("changed", mark, 0, (), 0, model.count, ())
                else:
                    model.write(path, page)
                    deeds.append((path, page))
                    expected = ("written", None, 0, (), 0, model.count, ())
                if by is not None:
                    replies[by] = expected
                self.assertEqual(told, expected)
                if chance.random() < 0.2:
                    model.count += 1
                    deeds.append((None, None))
                    self.assertEqual(source.take_back(paths=[path]), model.count)
                self.assertEqual((source.count, source.book()), (model.count, deeds))
                self.assertIs(source.page_at(path), model.page_at(path))
                self.assertEqual(source.mark_for(path, ()), model.mark_for(path, ()))


if __name__ == "__main__":
    unittest.main()
