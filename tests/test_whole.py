"""Points 3 and 36: what holds over rows of drawn deeds in trees of lodges, and what holds behind calms."""

import random
import unittest

from pagelodge.asks import Ask
from pagelodge.halls import Hall
from pagelodge.judging import judge
from pagelodge.pages import Page
from tests.samples import drawn_ask, drawn_page

PAGE_WORDS = ("gone", "same", "whole", "beyond", "part")
PATHS = ([], ["a"], ["b"], ["b", "a"])
TAGS = ([], ["t"], ["u"])


def without_unless(ask):
    return Ask(ask.path, heads=dict(ask.heads), spans=ask.spans, when=ask.when, wish=ask.wish.spelled())


def drawn_hall(chance, most=7):
    lodges = chance.randrange(1, most)
    return Hall([chance.randrange(-1, at) for at in range(lodges)],
                kinds=[chance.choice(["shared", "shared", "own", "door"]) for at in range(lodges)],
                rooms=[chance.choice([None, None, 20, 3]) for at in range(lodges)],
                clocks=[chance.randrange(-9, 9) for at in range(lodges)])


class Row:
    """A row of drawn deeds in a hall; letters come late, again, in any order, and never."""

    def __init__(self, seed, falls=True, calms=True):
        self.chance = random.Random(seed)
        self.hall = drawn_hall(self.chance)
        self.lodges = len(self.hall.ups)
        self.asks = {}
        self.falls = falls
        self.calms = calms

    def lodge(self):
        return self.chance.randrange(self.lodges)

    def do(self):
        """Does one deed."""
        chance, hall, drawn = self.chance, self.hall, self.chance.random()
        sent = len(hall.letters())
        if drawn < 0.3:
            ask = drawn_ask(chance)
            self.asks[hall.ask(self.lodge(), ask)] = ask
        elif drawn < 0.6 and sent:
            hall.come(chance.randrange(max(0, sent - 6), sent))
        elif drawn < 0.65 and sent:
            hall.come(chance.randrange(sent))
        elif drawn < 0.73:
            hall.put(chance.choice("ab"), drawn_page(chance), tell=chance.random() < 0.5)
        elif drawn < 0.78:
            hall.take_back(paths=chance.choice(PATHS), tags=chance.choice(TAGS))
        elif drawn < 0.81:
            hall.write(self.lodge(), chance.choice("ab"), drawn_page(chance), on=chance.choice([None, "s0"]))
        elif drawn < 0.92:
            hall.wait(chance.randrange(4))
        elif drawn < 0.95:
            lodge = self.lodge()
            for row in hall.errands(lodge)[:1]:
                hall.give_up(lodge, row[0])
        elif drawn < 0.96 and self.falls:
            hall.fall(self.lodge())
        elif drawn < 0.98 and self.calms:
            hall.calm()


def tags_told(book, path, count):
    """The tags of the page that stood at a path after so many deeds."""
    pages = [page for tick, written, page in book[:count] if written == path]
    return pages[-1].tags if pages else ()


def floor_of(floors, path, tags):
    return max([0] + [count for kind, name,
                      count in floors if (kind, name) in [("path", path)] + [("tag", tag) for tag in tags]])


class Promise(unittest.TestCase):
    def test_the_judge_finds_each_answer_right(self):
        found = {}
        for seed in range(300):
            row = Row(seed)
            for deed in range(80):
                row.do()
            row.hall.calm()
            book = row.hall.book()
            for asker, lodge, asked, told, what, answer in row.hall.answers():
                if asker in row.asks:
                    self.assertEqual(judge(book, asked, told, row.asks[asker], answer), "right", (seed, asker))
                    found[answer[0]] = found.get(answer[0], 0) + 1
        # Rows that bring forth hardly any answers would show nothing.
        for word in PAGE_WORDS + ("silent", "unkept"):
            self.assertGreater(found[word], 100, word)

    def test_the_links_of_the_ground_together_are_the_age(self):
        for seed in range(150):
            row = Row(seed)
            for deed in range(80):
                row.do()
            row.hall.calm()
            begun = {(letter[2], letter[4]): letter[0] for letter in row.hall.letters() if letter[1] == "ask"}
            for asker, lodge, asked, told, what, answer in row.hall.answers():
                ground = answer[6]
                if answer[0] in PAGE_WORDS:
                    self.assertEqual(sum(link[2] for link in ground), answer[4])
                    # Lodge by lodge, from the one that was asked to a topmost one.
                    ups = [row.hall.ups[link[0]] for link in ground]
                    self.assertEqual([lodge] + ups, [link[0] for link in ground] + [-1])
                    self.assertEqual(told - begun[ground[0][:2]], ground[0][2])
                    self.assertTrue(all(0 <= link[2] <= told - begun[link[:2]] for link in ground))
                else:
                    self.assertEqual((answer[4], ground), (0, ()))

    def test_what_was_heard_to_be_taken_back_is_told_by_nobody(self):
        # Without calms, in which a lodge may hear of it only behind a telling.
        for seed in range(150):
            row = Row(seed, calms=False)
            seen = 0
            for deed in range(80):
                row.do()
                book, answers = row.hall.book(), row.hall.answers()
                floors = [row.hall.floors(lodge) for lodge in range(row.lodges)]
                for asker, lodge, asked, told, what, answer in answers[seen:]:
                    if answer[0] in PAGE_WORDS:
                        tags = tags_told(book, what[0], answer[5])
                        self.assertGreaterEqual(answer[5], floor_of(floors[lodge], what[0], tags))
                seen = len(answers)
                for lodge in range(row.lodges):
                    for copy in row.hall.copies(lodge):
                        self.assertGreaterEqual(copy[6], floor_of(floors[lodge], copy[0], copy[9]))

    def test_stretches_are_put_together_of_one_make_alone(self):
        for seed in range(150):
            row = Row(seed)
            for deed in range(80):
                row.do()
                book = row.hall.book()
                texts = {path: {text for tick, written, page in book if written == path and page.text is not None
                                for text in [page.text] + [form[1] for form in page.forms]} for path in "ab"}
                for lodge in range(row.lodges):
                    for copy in row.hall.copies(lodge):
                        if copy[3] is not None:
                            alike = [text for text in texts[copy[0]] if len(text) == copy[4]
                                     and all(text[start:start + len(signs)] == signs for start, signs in copy[5])]
                            self.assertNotEqual(alike, [], (seed, copy))


class Calm(unittest.TestCase):
    def test_with_no_letters(self):
        hall = Hall([-1])
        self.assertEqual((hall.calm(), hall.calm()), (0, 0))
        self.assertEqual((hall.letters(), hall.happened()), ([], []))

    def test_each_letter_once_those_too_that_are_sent_meanwhile(self):
        hall = Hall([-1, 0, -1])
        hall.put("a", Page("x", rule="keep 5"), tell=True)
        hall.ask(1, Ask("a"))
        # Two letters of the putting, one of them sent on; three asks and three answers.
        self.assertEqual(hall.calm(), 7)
        self.assertEqual([letter[1:4] for letter in hall.letters()],
                         [("back", -1, 0), ("back", -1, 2), ("ask", 1, 0), ("back", 0, 1), ("ask", 0, -1),
                          ("answer", -1, 0), ("answer", 0, 1)])
        self.assertEqual(hall.calm(), 0)

    def test_letters_that_came_do_not_come_again(self):
        hall = Hall([-1, 0])
        hall.take_back(paths=["a"])
        hall.come(0)
        hall.take_back(paths=["b"])
        hall.come(1)
        self.assertEqual(hall.calm(), 2)
        self.assertEqual(len(hall.letters()), 4)
        hall.come(0)
        self.assertEqual((hall.calm(), hall.calm(), len(hall.letters())), (1, 0, 5))

    def test_in_the_order_in_which_they_were_sent(self):
        hall = Hall([-1, -1, 1])
        for path in "abc":
            hall.put(path, Page(path))
        for lodge, path in [(1, "c"), (0, "a"), (2, "b"), (0, "b")]:
            hall.ask(lodge, Ask(path))
        hall.come(1)
        self.assertEqual(hall.calm(), 9)
        self.assertEqual([letter[1:5] for letter in hall.letters()[4:]],
                         [("answer", -1, 0, 0), ("answer", -1, 1, 0), ("ask", 1, -1, 1), ("answer", -1, 0, 1),
                          ("answer", -1, 1, 1), ("answer", 1, 2, 0)])

    def test_how_many_came(self):
        for seed in range(100):
            row = Row(seed)
            for deed in range(30):
                row.do()
            hall = row.hall
            hall.calm()
            before = len(hall.letters())
            hall.take_back(paths=["a"])
            hall.ask(0, Ask("a", wish="anew"))
            self.assertEqual(hall.calm(), len(hall.letters()) - before)
            self.assertEqual(hall.calm(), 0)

    def test_behind_it_nothing_that_was_taken_back_is_served(self):
        for seed in range(150):
            row = Row(seed)
            hall = row.hall
            for deed in range(60):
                row.do()
            taken = [letter[5] for letter in hall.letters() if letter[1] == "back"]
            hall.calm()
            for lodge in range(row.lodges):
                for copy in hall.copies(lodge):
                    for paths, tags, count in taken:
                        if copy[0] in paths or set(copy[9]) & set(tags):
                            self.assertGreaterEqual(copy[6], count)

    def test_each_asker_was_told_just_once(self):
        for seed in range(200):
            row = Row(seed, falls=False)
            hall = row.hall
            for deed in range(60):
                row.do()
            hall.calm()
            askers = len(hall.answers())
            self.assertEqual(sorted(telling[0] for telling in hall.answers()), list(range(askers)))
            self.assertEqual(hall.ask(0, Ask("a")), askers)
            self.assertEqual([hall.errands(lodge) for lodge in range(1, row.lodges)], [[]] * (row.lodges - 1))

    def test_with_falls_none_was_told_twice(self):
        for seed in range(150):
            row = Row(seed)
            for deed in range(80):
                row.do()
            row.hall.calm()
            askers = [telling[0] for telling in row.hall.answers()]
            self.assertEqual(len(set(askers)), len(askers))


class Calmly:
    """The same drawn deeds in several halls, a calm behind each; asking and writing is done at the last lodges."""

    def __init__(self, seed, halls, unless=True):
        self.chance = random.Random(seed)
        self.halls = halls
        self.unless = unless

    def each(self, deed):
        for hall in self.halls:
            deed(hall, len(hall.ups) - 1)
            hall.calm()

    def do(self):
        chance, drawn = self.chance, self.chance.random()
        path, page, flag = chance.choice("ab"), drawn_page(chance), chance.random() < 0.5
        if drawn < 0.5:
            ask = drawn_ask(chance) if self.unless else without_unless(drawn_ask(chance))
            self.each(lambda hall, last: hall.ask(last, ask))
        elif drawn < 0.62:
            self.each(lambda hall, last: hall.put(path, page, tell=flag))
        elif drawn < 0.7:
            paths, tags = chance.choice(PATHS), chance.choice(TAGS)
            self.each(lambda hall, last: hall.take_back(paths=paths, tags=tags))
        elif drawn < 0.77:
            self.each(lambda hall, last: hall.write(last, path, page, on="s0" if flag else None))
        else:
            ticks = chance.randrange(4)
            self.each(lambda hall, last: hall.wait(ticks))


class CalmAlone(unittest.TestCase):
    def test_the_age_is_exact(self):
        for seed in range(150):
            hall = drawn_hall(random.Random(seed))
            row = Calmly(seed, [hall])
            chance = random.Random(seed)
            for deed in range(60):
                row.do()
                hall.ask(chance.randrange(len(hall.ups)), drawn_ask(chance))
                hall.calm()
            sent = {(letter[3], letter[4]): letter[0] for letter in hall.letters() if letter[1:3] == ("answer", -1)}
            for asker, lodge, asked, told, what, answer in hall.answers():
                if answer[0] in PAGE_WORDS:
                    self.assertEqual(answer[4], told - sent[answer[6][-1][:2]])

    def check_rows(self, seed, kinds, unless):
        """A row of lodges of these kinds against one shared lodge."""
        chance = random.Random(seed)
        lodges = len(kinds)
        clocks = [chance.randrange(-5, 5) for at in range(lodges)]
        row, one = Hall(list(range(-1, lodges - 1)), kinds=kinds, clocks=clocks), Hall([-1])
        calmly = Calmly(seed, [row, one], unless=unless)
        for deed in range(60):
            calmly.do()
            self.assertEqual([(asker, asked, told, what, answer[:6]) for asker, at, asked, told, what,
                              answer in row.answers()],
                             [(asker, asked, told, what, answer[:6]) for asker, at, asked, told, what,
                              answer in one.answers()])
            self.assertEqual([copy[:10] for copy in row.copies(lodges - 1)], [copy[:10] for copy in one.copies(0)])
        self.assertEqual({telling[1] for telling in row.answers()}, {lodges - 1})

    def test_a_row_of_shared_lodges_answers_as_one_does(self):
        for seed in range(120):
            self.check_rows(seed, ["shared"] * (2 + seed % 4), True)

    def test_a_row_with_doors_answers_as_one_does(self):
        for seed in range(120):
            chance = random.Random(seed)
            kinds = [chance.choice(["shared", "door"]) for at in range(1 + seed % 5)] + ["shared"]
            self.check_rows(seed, kinds, False)


if __name__ == "__main__":
    unittest.main()
