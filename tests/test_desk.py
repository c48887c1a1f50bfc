"""Points 40 and 41: the desk, the texts that it is told, and rows of texts that are run."""

import random
import unittest

from pagelodge.asks import Ask
from pagelodge.desk import Desk
from pagelodge.errors import NoHall, NoLine, PageError
from pagelodge.halls import Hall
from pagelodge.pages import Page
from pagelodge.texts import read_answer, show_answer, show_ask, show_page
from tests.samples import ALPHABET, GREATEST, drawn_ask, drawn_page, no_texts

PAGE = "page a\nrule keep 5\ntags t\ntext hello"
TOO_LONG = "1" + "0" * 60


def desk_with(ups=(-1, 0), texts=(f"put\n{PAGE}",), **more):
    """A desk that was told texts."""
    desk = Desk(ups, **more)
    for text in texts:
        desk.say(text)
    return desk


def all_of(desk):
    """All that can be asked of a desk and its hall."""
    hall = desk.hall
    lodges = [(hall.copies(at), hall.floors(at), hall.errands(at)) for at in range(len(hall.ups))]
    told = (hall.tick, hall.letters(), hall.answers(), hall.happened(), hall.book(), lodges)
    return told + (desk.journal(), desk.depth)


class DeskCase(unittest.TestCase):
    def check(self, desk, *pairs):
        for text, answer in pairs:
            self.assertEqual(desk.say(text), answer, text)

    def refused(self, desk, why, *texts, at=()):
        for text in texts:
            with self.subTest(text=text):
                before = all_of(desk)
                with self.assertRaises(NoLine) as caught:
                    desk.say(text)
                self.assertEqual((caught.exception.why, caught.exception.at), (why, at))
                self.assertIs(type(caught.exception.at), tuple)
                self.assertEqual(all_of(desk), before)


class Said(DeskCase):
    def test_put_and_tell(self):
        desk = Desk([-1, -1])
        self.check(desk, (f"put\n{PAGE}", "count 1"), ("put\npage b\ngone", "count 2"),
                   ("tell\npage a/b\ntext ", "count 3"))
        self.assertEqual([(path, page.told()) for tick, path, page in desk.hall.book()],
                         [("a", Page("hello", rule="keep 5", tags=["t"]).told()), ("b", Page(None).told()),
                          ("a/b", Page("").told())])
        self.assertEqual([letter[1:] for letter in desk.hall.letters()],
                         [("back", -1, to, None, (("a/b",), (), 3)) for to in (0, 1)])

    def test_ask_and_told(self):
        desk = desk_with()
        self.check(desk, ("ask 1 a", "asker 0"), ("ask 0 a heads lang=de spans 0..2 wish left 1", "asker 1"),
                   ("told 0", "waits"), ("told 1", "waits"), ("calm", "came 6"),
                   ("told 0", "whole s0 5 age 0 count 1\nby 1.0.0 0.1.0\n0 hello"),
                   ("told 1", "part s0 5 age 0 count 1\nby 0.0.0\n0 he"), ("ask 0 b wish kept", "asker 2"),
                   ("told 2", "unkept - 0 age 0 count 0"),
                   ("told 0", "whole s0 5 age 0 count 1\nby 1.0.0 0.1.0\n0 hello"))
        self.assertEqual(desk.hall.answers()[0][4],
                         Ask("a", heads={"lang": "de"}, spans=[(0, 2)], wish="left 1").told())

    def test_write(self):
        desk = desk_with()
        self.check(desk, ("write 1\npage a\nweak\ntext bye", "asker 0"), ("told 0", "waits"), ("calm", "came 4"),
                   ("told 0", "written - 0 age 0 count 2"), ("write 0 on s0\npage a\ngone", "asker 1"),
                   ("write 0 on w1\npage a\ngone", "asker 2"), ("calm", "came 4"),
                   ("told 1", "changed w1 0 age 0 count 2"), ("told 2", "written - 0 age 0 count 3"))
        self.assertEqual([page.told() for tick, path, page in desk.hall.book()[1:]],
                         [Page("bye", weak=True).told(), Page(None).told()])

    def test_back(self):
        desk = Desk([-1])
        self.check(desk, ("back paths a/b,c", "count 1"), ("back tags t,u,t", "count 2"),
                   ("back paths a tags t", "count 3"))
        self.assertEqual([letter[5] for letter in desk.hall.letters()],
                         [(("a/b", "c"), (), 1), ((), ("t", "u", "t"), 2), (("a",), ("t",), 3)])

    def test_come_and_give(self):
        desk = desk_with()
        self.check(desk, ("ask 1 a", "asker 0"), ("ask 1 a wish left 1", "asker 1"), ("come 0", "sent 1"),
                   ("come 0", "none"),
                   ("come 1", "sent 2"), ("come 2", "sent 3, sent 4"), ("come 3", "told 0, told 1"), ("come 4", "none"),
                   ("ask 1 b", "asker 2"), ("ask 1 b", "asker 3"), ("give 1 1", "told 2, told 3"),
                   ("told 3", "silent - 0 age 0 count 0"), ("ask 1 c", "asker 4"), ("come 6", "sent 7"),
                   ("give 0 1", "sent 8"), ("come 8", "told 4"))

    def test_give_of_an_errand_for_which_nobody_waits(self):
        desk = desk_with([-1], ["put\npage a\nrule worn 5\ntext x", "ask 0 a", "calm"])
        self.check(desk, ("ask 0 a", "asker 1"), ("give 0 1", "none"))

    def test_wait_and_fall(self):
        desk = desk_with()
        self.check(desk, ("wait 0", "tick 0"), ("wait 5", "tick 5"), (f"wait {GREATEST}", f"tick {GREATEST + 5}"),
                   ("ask 1 a", "asker 0"), ("fall 1", "fallen"), ("calm", "came 4"), ("told 0", "waits"),
                   ("fall 0", "fallen"))
        self.assertEqual(desk.hall.tick, GREATEST + 5)

    def test_calm(self):
        desk = Desk([-1, 0, 1])
        self.check(desk, ("calm", "came 0"), ("back paths a", "count 1"), ("calm", "came 3"), ("calm", "came 0"))

    def test_why(self):
        desk = Desk([-1])
        for text in ("put\npage a\nrule keep 2, worn 2\nturns lang who\ntext hello\nform de, hallo",
                     "ask 0 a heads lang=de", "calm", "ask 0 a spans 0..2", "calm"):
            desk.say(text)
        self.check(desk, ("why 0 b", "none"), ("why 0 a spans 0..2", "heads lang de -\nserves fresh"),
                   ("why 0 a heads lang=de", "serves fresh\nheads lang - de"), ("why 0 a", "heads lang de -\nlacks 2"),
                   ("why 0 a heads who=me wish anew", "heads lang de -\nheads who - me"),
                   ("why 0 a heads lang=de wish anew", "anew\nheads lang - de"), ("wait 2", "tick 2"),
                   ("why 0 a spans 0..1", "heads lang de -\nserves worn"))

    def test_why_elder(self):
        desk = Desk([-1])
        for text in ("put\npage a\nrule keep 9\nturns lang\ntext x", "ask 0 a", "calm",
                     "put\npage a\nrule keep 9\nturns who\ntext y", "ask 0 a heads lang=z", "calm"):
            desk.say(text)
        self.check(desk, ("why 0 a", "elder 2\nserves fresh"))

    def test_what_a_hall_does(self):
        desk = desk_with([-1, 0, 0], kinds=["shared", "own", "door"], rooms=[None, 3, None], clocks=[5, -5, 0])
        self.check(desk, ("ask 1 a", "asker 0"), ("ask 2 a", "asker 1"), ("calm", "came 6"))
        self.assertEqual([len(desk.hall.copies(at)) for at in range(3)], [1, 0, 0])

    def test_refused_as_a_hall(self):
        for ups, more, why in [([], {}, "ups"), ([0], {}, "ups"), ([-1], {"kinds": ["x"]}, "kinds"),
                               ([-1], {"rooms": [-1]}, "rooms"), ([-1], {"clocks": [None]}, "clocks"),
                               ([True], {"clocks": [None]}, "ups")]:
            with self.assertRaises(NoHall) as caught:
                Desk(ups, **more)
            self.assertEqual(caught.exception.why, why)
        self.assertRaises(TypeError, Desk, [-1], ["shared"])

    def test_great_numbers(self):
        desk = desk_with([-1], ["ask 0 a", f"wait {GREATEST}", f"wait {GREATEST}", "calm"])
        self.check(desk, ("told 0", f"gone - 0 age {2 * GREATEST} count 0\nby 0.0.{2 * GREATEST}"))


class Form(DeskCase):
    def busy(self):
        desk = desk_with(texts=[f"put\n{PAGE}", "ask 1 a", "calm", "ask 1 b", "write 0\npage c\ngone"])
        desk.store("all", ["calm"])
        return desk

    def test_no_such_text(self):
        self.refused(self.busy(), "form", "", " ", "\n", "x", "puts", "Put\npage a\ngone", " calm", "calm ", "calm\n",
                     "calm 1", "Calm",
                     "calm calm", "asks 0 a", "put", "put ", "put \npage a\ngone", "put page a", "put\tpage a\ngone",
                     "putt\npage a\ngone",
                     "tell", "tell ", "tell \npage a\ngone", "store x", "run", "Run all", "run all ", "run  all",
                     "run all all", "run\nall", "journal", "%", "\u00e9")

    def test_asks(self):
        for word in ("ask", "why"):
            self.refused(self.busy(), "form", word, f"{word} ", f"{word} 3", f"{word} 0", f"{word}  0 a",
                         f"{word} x a", f"{word} a",
                         f"{word} 00 a", f"{word} -1 a", f"{word} +1 a", f"{word} 0\na", f"{word}\n0 a",
                         f"{word} 0\n a", f"{word} {TOO_LONG} a", f"{word} 1_0 a", f"{word}  a", f"{word} \u0663 a")

    def test_writings(self):
        page = "\npage a\ngone"
        self.refused(self.busy(), "form", "write", "write 0", "write 0 ", f"write{page}", f"write {page}",
                     f"write 0 {page}", f"write x{page}",
                     f"write  0{page}", f"write 0 on{page}", f"write 0 in s0{page}", f"write 0  on s0{page}",
                     f"write 0 on s0 {page}",
                     f"write 0 on  s0{page}", f"write 0 on s0 on s0{page}", "write 0 on s0", "write 0 on ",
                     f"write 01{page}",
                     f"write {TOO_LONG}{page}", f"write 0 s0{page}", f"write\n0{page}", f"write on s0{page}",
                     f"write 0 0{page}")

    def test_takings_back(self):
        self.refused(self.busy(), "form", "back", "back ", "back paths", "back tags", "back paths a b",
                     "back tags a b", "back a",
                     "back paths a tags", "back tags t paths a", "back paths tags t", "back paths a paths b",
                     "back tags t tags u",
                     "back  paths a", "back paths a tags t ", "back paths a  tags t", "back paths a tags t u",
                     "back path a",
                     "back\npaths a", "back paths a, b", "back Paths a", "back paths a tags t paths b",
                     "back paths a tags t tags u x")

    def test_numbers(self):
        for word in ("come", "wait", "fall", "told"):
            self.refused(self.busy(), "form", word, f"{word} ", f"{word} x", f"{word} -1", f"{word} 00", f"{word} 0 ",
                         f"{word}  0",
                         f"{word} 0 0", f"{word} 0\n", f"{word}\n0", f"{word} {TOO_LONG}", f"{word} 1.", f"{word} 1_0")
        self.refused(self.busy(), "form", "give", "give 0", "give 0 ", "give  0 0", "give 0  0", "give 0 x",
                     "give x 0", "give 0 0 ",
                     "give 0 0 0", "give 00 0", "give 0 00", f"give {TOO_LONG} 0", f"give 0 {TOO_LONG}", "give 0\n0",
                     "give -1 0")

    def test_texts(self):
        self.refused(self.busy(), "text", "put\n", "put\n\n", "put\npage a", "put\npage A\ngone", "put\n page a\ngone",
                     "put\npage a\ngone\n",
                     "put\npage a\nrule x 1\ngone", "tell\n", "tell\npage a\ntext", "ask 0 ", "ask 0  a", "ask 0 a ",
                     "ask 0 A", "ask 0 a\n",
                     "ask 0 a b", "ask 0 \na", "ask 0 a wish keep 3", "why 0 ", "why 0 A", "why 0 a unless s",
                     "write 0\n", "write 0\npage",
                     "write 0\n\npage a\ngone", "write 0 on s0\n", "write 0 on \npage a\ngone",
                     "write 0 on x\npage a\ngone",
                     "write 0 on s00\npage a\ngone", "write 0 on s0,s1\npage a\ngone", "back paths ", "back tags ",
                     "back paths A",
                     "back paths a,", "back paths ,a", "back paths a,,b", "back tags a/b", "back tags t,T",
                     "back paths a tags ",
                     "back paths  tags t", "back paths a tags t,", "back paths a\nb", "back paths a\n",
                     "back tags t\n", "back paths a/b/c/d/e", "back tags aaaaaaaaa", "back paths \n tags \n")

    def test_lodges_letters_errands_askers(self):
        desk = self.busy()
        self.refused(desk, "lodge", "ask 2 a", "why 2 a", "write 2\npage a\ngone", "write 2 on s0\npage a\ngone",
                     "fall 2", "give 2 0", f"ask {GREATEST} a", f"fall {GREATEST}", f"give {GREATEST} 0")
        letters = len(desk.hall.letters())
        self.refused(desk, "letter", f"come {letters}", f"come {GREATEST}")
        self.refused(desk, "errand", "give 1 0", "give 0 0", "give 1 2", f"give 0 {GREATEST}")
        self.refused(desk, "asker", "told 3", f"told {GREATEST}")
        self.refused(Desk([-1]), "letter", "come 0")
        self.refused(Desk([-1]), "asker", "told 0")

    def test_two_at_once(self):
        desk = self.busy()
        # The form ahead of the text, the text ahead of the lodge, the lodge ahead of the errand.
        self.refused(desk, "form", "ask x A", "ask 00 A", "write x\npage", "write 0 in x\npage",
                     "write 9 on x y\npage a\ngone", "back paths A b", "give x 99", "give 99 x", "back tags T paths P")
        self.refused(desk, "text", "ask 9 A", "ask 9 ", "why 9 A", "write 9\npage", "write 9 on x\npage a\ngone",
                     "write 9 on s0\npage", "write 9 on x\npage")
        self.refused(desk, "lodge", "give 9 99", "give 2 0")

    def test_each_refusal_is_of_the_class(self):
        with self.assertRaises(PageError) as caught:
            Desk([-1]).say("x")
        self.assertIs(type(caught.exception), NoLine)

    def test_askers_count_on_behind_what_is_refused(self):
        desk = self.busy()
        self.refused(desk, "lodge", "ask 7 a")
        self.check(desk, ("ask 0 a", "asker 3"))

    def test_texts_of_one_sign_more_or_less(self):
        texts = [f"put\n{PAGE}", "ask 0 a spans 0..2", "write 0 on s0\npage a\ngone", "back paths a,b tags t,u",
                 "come 0", "give 0 1", "wait 3", "fall 1", "calm", "told 0", "why 1 a", "run all"]
        signs = "a0 ,\n%x"
        for text in texts:
            for at in range(len(text) + 1):
                for other in [text[:at] + text[at + 1:], *(text[:at] + sign + text[at:] for sign in signs)]:
                    desk = self.busy()
                    before = all_of(desk)
                    try:
                        self.assertIs(type(desk.say(other)), str)
                    except NoLine as refusal:
                        self.assertIn(refusal.why, ("form", "text", "lodge", "letter", "errand", "asker", "name"))
                        self.assertEqual((refusal.at, all_of(desk)), ((), before))

    def test_every_sign_alone(self):
        for sign in ALPHABET:
            self.refused(Desk([-1]), "form", sign)


class Same(unittest.TestCase):
    def test_a_desk_does_what_its_hall_does(self):
        for seed in range(60):
            chance = random.Random(seed)
            desk, hall = Desk([-1, 0, 0, -1]), Hall([-1, 0, 0, -1])
            for deed in range(60):
                drawn, lodge, sent = chance.random(), chance.randrange(4), len(hall.letters())
                page, ask = drawn_page(chance), drawn_ask(chance)
                if drawn < 0.3:
                    self.assertEqual(desk.say(f"ask {lodge} {show_ask(ask)}"), f"asker {hall.ask(lodge, ask)}")
                elif drawn < 0.6 and sent:
                    letter = chance.randrange(max(0, sent - 5), sent)
                    told = ", ".join(f"{word} {number}" for word, number in hall.come(letter)) or "none"
                    self.assertEqual(desk.say(f"come {letter}"), told)
                elif drawn < 0.7:
                    word, tell = chance.choice([("put", False), ("tell", True)])
                    self.assertEqual(desk.say(f"{word}\n{show_page('a', page)}"),
                                     f"count {hall.put('a', page, tell=tell)}")
                elif drawn < 0.8:
                    on = chance.choice([None, "s0"])
                    number = hall.write(lodge, "b", page, on=on)
                    self.assertEqual(desk.say(f"write {lodge}{' on s0' if on else ''}\n{show_page('b', page)}"),
                                     f"asker {number}")
                elif drawn < 0.85:
                    self.assertEqual(desk.say("back paths a tags t"),
                                     f"count {hall.take_back(paths=['a'], tags=['t'])}")
                else:
                    hall.wait(2)
                    self.assertEqual(desk.say("wait 2"), f"tick {hall.tick}")
            self.assertEqual(desk.say("calm"), f"came {hall.calm()}")
            self.assertEqual((desk.hall.letters(), desk.hall.answers()), (hall.letters(), hall.answers()))
            for telling in hall.answers():
                shown = desk.say(f"told {telling[0]}")
                self.assertEqual((shown, read_answer(shown)), (show_answer(telling[5]), telling[5]))
            ask = drawn_ask(chance)
            for lodge in range(4):
                rows = [" ".join(str(thing) or "-" for thing in reason) for reason in hall.reasons(lodge, ask)]
                self.assertEqual(desk.say(f"why {lodge} {show_ask(ask)}"), "\n".join(rows) or "none")


class Running(DeskCase):
    def refused_run(self, desk, texts, why, at):
        with self.assertRaises(NoLine) as caught:
            desk.run(texts)
        self.assertEqual((caught.exception.why, caught.exception.at), (why, at))
        self.assertIs(type(caught.exception.at), tuple)
        self.assertEqual(desk.depth, 0)

    def test_a_row_that_is_kept(self):
        desk = desk_with([-1])
        desk.store("once", ["ask 0 a", "calm", "told 0"])
        self.assertEqual((desk.journal(), desk.depth), ([], 0))
        self.check(desk, ("run once", "ran 3"), ("told 0", "whole s0 5 age 0 count 1\nby 0.0.0\n0 hello"))
        self.assertEqual(desk.journal(), [("in", 0), ("out", 0, 3)])
        self.check(desk, ("run once", "ran 3"))
        self.assertEqual(len(desk.journal()), 4)

    def test_a_row_that_is_handed_in(self):
        for kind in (list, tuple):
            desk = desk_with([-1])
            answers = desk.run(kind(["wait 2", "ask 0 a wish kept", "told 0", "calm"]))
            self.assertEqual(answers, ["tick 2", "asker 0", "unkept - 0 age 0 count 0", "came 0"])
            self.assertIs(type(answers), list)
            self.assertEqual((desk.run(kind([])), desk.journal()),
                             ([], [("in", 0), ("out", 0, 4), ("in", 0), ("out", 0, 0)]))

    def test_an_empty_row(self):
        desk = Desk([-1])
        desk.store("nil", [])
        self.check(desk, ("run nil", "ran 0"))
        self.assertEqual(desk.journal(), [("in", 0), ("out", 0, 0)])

    def test_kept_in_the_place_of_what_was_kept(self):
        desk = Desk([-1])
        self.assertIsNone(desk.store("x", ["wait 1"]))
        texts = ["wait 10", "wait 20"]
        desk.store("x", texts)
        texts.clear()
        desk.store("y", ("wait 100",))
        self.check(desk, ("run x", "ran 2"), ("run y", "ran 1"), ("wait 0", "tick 130"))

    def test_one_within_another(self):
        desk = Desk([-1])
        desk.store("in", ["wait 1", "wait 2"])
        desk.store("mid", ["run in", "wait 4", "run in"])
        self.assertEqual(desk.run(["run mid", "wait 0", "run in"]), ["ran 3", "tick 10", "ran 2"])
        self.assertEqual(desk.journal(),
                         [("in", 0), ("in", 1), ("in", 2), ("out", 2, 2), ("in", 2), ("out", 2, 2), ("out", 1, 3),
                                          ("in", 1), ("out", 1, 2), ("out", 0, 3)])
        self.assertEqual(desk.depth, 0)

    def test_refused_in_the_midst(self):
        desk = Desk([-1])
        self.refused_run(desk, ["wait 1", "wait 2", "fall 7", "wait 4"], "lodge", (2,))
        self.check(desk, ("wait 0", "tick 3"))
        self.assertEqual(desk.journal(), [("in", 0), ("out", 0, 2)])
        for text, why in [("x", "form"), ("put\n", "text"), ("come 0", "letter"), ("give 0 0", "errand"),
                          ("told 0", "asker"), ("run nil", "name"), ("run X", "name")]:
            self.refused_run(desk, [text], why, (0,))
            self.refused_run(desk, ["wait 0"] * 5 + [text], why, (5,))

    def test_refused_within_others(self):
        desk = Desk([-1])
        desk.store("deep", ["wait 1", "wait 2", "come 9", "wait 4"])
        desk.store("mid", ["wait 10", "run deep", "wait 20"])
        with self.assertRaises(NoLine) as caught:
            desk.say("run mid")
        self.assertEqual((caught.exception.why, caught.exception.at), ("letter", (1, 2)))
        self.assertEqual(desk.journal(), [("in", 0), ("in", 1), ("out", 1, 2), ("out", 0, 1)])
        self.check(desk, ("wait 0", "tick 13"))
        self.refused_run(desk, ["wait 100", "wait 100", "wait 100", "run mid", "wait 100"], "letter", (3, 1, 2))
        self.check(desk, ("wait 0", "tick 326"))
        self.assertEqual(desk.journal()[4:],
                         [("in", 0), ("in", 1), ("in", 2), ("out", 2, 2), ("out", 1, 1), ("out", 0, 3)])

    def test_names(self):
        desk = Desk([-1])
        desk.store("x", ["wait 1"])
        self.refused(desk, "name", "run ", "run y", "run X", "run xx", "run x,", "run x\n", "run aaaaaaaaa", "run 0",
                     "run x\ny", "run \n")
        for name in ["", "X", "a b", "aaaaaaaaa", "a/b", "x\n", "0"] + no_texts():
            with self.assertRaises(NoLine) as caught:
                desk.store(name, ["wait 1"])
            self.assertEqual((caught.exception.why, caught.exception.at), ("name", ()))
        self.check(desk, ("run x", "ran 1"))

    def test_a_name_that_is_not_kept_has_no_place_of_its_own(self):
        desk = Desk([-1])
        desk.store("a", ["wait 1", "run b"])
        with self.assertRaises(NoLine) as caught:
            desk.say("run a")
        self.assertEqual((caught.exception.why, caught.exception.at), ("name", (1,)))
        self.assertEqual(desk.journal(), [("in", 0), ("out", 0, 1)])

    def test_deep(self):
        desk = Desk([-1])
        desk.store("a", ["run a"])
        with self.assertRaises(NoLine) as caught:
            desk.say("run a")
        self.assertEqual((caught.exception.why, caught.exception.at), ("deep", (0,) * 8))
        self.assertEqual(desk.depth, 0)
        self.assertEqual(desk.journal(),
                         [("in", depth) for depth in range(8)] + [("out", depth, 0) for depth in range(7, -1, -1)])
        self.refused_run(desk, ["wait 1", "run a"], "deep", (1,) + (0,) * 7)

    def test_eight_are_let_and_the_ninth_is_not(self):
        names = "abcdefghi"
        desk = Desk([-1])
        for name, below in zip(names, names[1:]):
            desk.store(name, ["wait 1", f"run {below}", "wait 1"])
        desk.store("h", ["wait 1"])
        self.check(desk, ("run a", "ran 3"), ("wait 0", "tick 15"))
        self.assertEqual(max(entry[1] for entry in desk.journal()), 7)
        desk.store("h", ["wait 1", "run i"])
        desk.store("i", ["wait 1"])
        with self.assertRaises(NoLine) as caught:
            desk.say("run a")
        self.assertEqual((caught.exception.why, caught.exception.at), ("deep", (1,) * 8))
        self.check(desk, ("wait 0", "tick 23"), ("run b", "ran 3"))
        # What is handed in to be run is a running, too.
        desk.store("h", ["wait 1"])
        self.refused_run(desk, ["run a"], "deep", (0,) + (1,) * 7)

    def test_a_name_ahead_of_deep(self):
        desk = Desk([-1])
        desk.store("a", ["run a"])
        names = "bcdefghi"
        for name, below in zip(names, names[1:]):
            desk.store(name, [f"run {below}"])
        desk.store("i", ["run no"])
        with self.assertRaises(NoLine) as caught:
            desk.say("run b")
        self.assertEqual((caught.exception.why, caught.exception.at), ("name", (0,) * 8))

    def test_whatever_is_refused_no_running_is_on_behind_it(self):
        desk = Desk([-1])
        desk.store("a", ["wait 1", "run b"])
        desk.store("b", ["wait 1", "run c"])
        for text in ("x", "put\n", "fall 9", "come 9", "give 0 9", "told 9", "run nil", "run a", "run "):
            desk.store("c", ["wait 1", text])
            before = len(desk.journal())
            for again in range(3):
                self.assertRaises(NoLine, desk.say, "run a")
                self.assertRaises(NoLine, desk.run, ["run b", "run a"])
                self.assertEqual(desk.depth, 0)
            for entry in desk.journal()[before:]:
                self.assertIs(type(entry), tuple)
            self.assertEqual(desk.journal()[before], ("in", 0))
        self.assertEqual([entry[1] for entry in desk.journal()].count(0) % 2, 0)

    def test_the_journal_is_a_new_list_each_time(self):
        desk = Desk([-1])
        desk.run(["wait 1"])
        desk.journal().clear()
        self.assertEqual(desk.journal(), [("in", 0), ("out", 0, 1)])
        answers = desk.run(["wait 1"])
        answers.clear()
        self.assertEqual(desk.run(["wait 1"]), ["tick 3"])

    def test_what_is_refused_by_itself_is_not_in_the_journal(self):
        desk = Desk([-1])
        for text in ("x", "run nil", "fall 9"):
            self.assertRaises(NoLine, desk.say, text)
        self.assertEqual(desk.journal(), [])

    def test_drawn_rows_against_a_model(self):
        for seed in range(200):
            chance = random.Random(seed)
            names = "abcd"
            rows = {name: [self.drawn_text(chance, names) for text in range(chance.randrange(4))] for name in names}
            desk = Desk([-1])
            for name, texts in rows.items():
                desk.store(name, texts)
            for name in names:
                journal, ticks = [], []
                expected = modelled(rows, name, 0, journal, ticks)
                before, tick = len(desk.journal()), desk.hall.tick
                try:
                    found = desk.say(f"run {name}")
                except NoLine as refusal:
                    found = (refusal.why, refusal.at)
                self.assertEqual(found, expected, (seed, name))
                self.assertEqual(desk.journal()[before:], journal)
                self.assertEqual(desk.hall.tick - tick, sum(ticks))
                self.assertEqual(desk.depth, 0)

    def drawn_text(self, chance, names):
        return chance.choice(["wait 1", "wait 1", "wait 5", "x", "come 99",
                              "run z"] + [f"run {name}" for name in names])


def modelled(rows, name, depth, journal, ticks):
    """What running a row says by point 41: `ran N`, or why and at."""
    if name not in rows:
        return ("name", ())
    if depth == 8:
        return ("deep", ())
    journal.append(("in", depth))
    for place, text in enumerate(rows[name]):
        word, rest = (text + " ").split(" ", 1)
        outcome = {"x": ("form", ()), "come": ("letter", ())}.get(word)
        if word == "wait":
            ticks.append(int(rest))
        elif word == "run":
            ran = modelled(rows, rest.strip(), depth + 1, journal, ticks)
            outcome = ran if isinstance(ran, tuple) else None
        if outcome is not None:
            journal.append(("out", depth, place))
            return (outcome[0], (place,) + outcome[1])
    journal.append(("out", depth, len(rows[name])))
    return f"ran {len(rows[name])}"


if __name__ == "__main__":
    unittest.main()
