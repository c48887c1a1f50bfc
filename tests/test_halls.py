"""Points 33 to 35: halls, their deeds, their letters, and what is told of them."""

import itertools
import random
import unittest

from pagelodge.asks import Ask
from pagelodge.errors import NoDeed, NoHall
from pagelodge.halls import Hall
from pagelodge.pages import Page
from tests.samples import GREATEST, Stubborn, drawn_ask, drawn_page, no_texts

TEXT = "Some text, of twenty"
FIRM = ("a", (), (), (), None, "firm")
WHOLE = Ask("a")
UNKEPT = ("unkept", None, 0, (), 0, 0, ())
SILENT = ("silent", None, 0, (), 0, 0, ())


def all_of(hall):
    """All that can be asked of a hall."""
    lodges = [(hall.copies(at), hall.floors(at), hall.errands(at)) for at in range(len(hall.ups))]
    return (hall.tick, hall.letters(), hall.answers(), hall.happened(), hall.book(), lodges)


def hall_with(ups, rule="keep 5", **more):
    """A hall with a page at the source."""
    hall = Hall(ups, **more)
    hall.put("a", Page(TEXT, rule=rule))
    return hall


class Made(unittest.TestCase):
    def refused(self, why, ups, **more):
        with self.assertRaises(NoHall) as caught:
            Hall(ups, **more)
        self.assertEqual(caught.exception.why, why)

    def test_trees(self):
        for lodges in range(1, 13):
            chance = random.Random(lodges)
            for ups in ([-1] * lodges, list(range(-1, lodges - 1)), [chance.randrange(-1, at) for at in range(lodges)]):
                for kind in (list, tuple):
                    hall = Hall(kind(ups))
                    self.assertEqual((hall.tick, hall.letters(), hall.answers(), hall.happened(), hall.book()),
                                     (0, [], [], [], []))
                    for at in range(lodges):
                        self.assertEqual((hall.copies(at), hall.floors(at), hall.errands(at)), ([], [], []))

    def test_who_stands_above(self):
        ups = [-1, 0, -1, 1, 1, 2, 0]
        hall = Hall(ups)
        for at in range(7):
            hall.ask(at, WHOLE)
        self.assertEqual(hall.letters(), [(0, "ask", at, up, 0, (FIRM, 0)) for at, up in enumerate(ups)])

    def test_kinds(self):
        for rule, kinds, kept in [("keep 5", (), [1, 1, 1]), ("keep 5", ["shared"] * 3, [1, 1, 1]),
                                  ("keep 5", ("own", "shared", "door"), [1, 1, 0]), ("own", (), [0, 0, 0]),
                                  ("own", ("own", "shared", "door"), [1, 0, 0]),
                                  ("own", ["door", "own", "own"], [0, 1, 1])]:
            hall = hall_with([-1] * 3, rule, kinds=kinds)
            for at in range(3):
                hall.ask(at, WHOLE)
            hall.calm()
            self.assertEqual([len(hall.copies(at)) for at in range(3)], kept)

    def test_all_is_told_for_one_lodge(self):
        for kind, room, kept in [("shared", None, 0), ("own", None, 1), ("own", 5, 0), ("door", 50, 0)]:
            hall = hall_with([-1], "own", kinds=[kind], rooms=[room], clocks=[7])
            hall.ask(0, WHOLE)
            self.assertEqual(hall.errands(0)[0][3], 7)
            hall.calm()
            self.assertEqual(len(hall.copies(0)), kept)

    def test_rooms(self):
        for rooms, kept in [((), [1, 1, 1]), ([None] * 3, [1, 1, 1]), ((19, 20, None), [0, 1, 1]),
                            ([0, GREATEST, 5], [0, 1, 0])]:
            hall = hall_with([-1] * 3, rooms=rooms)
            for at in range(3):
                hall.ask(at, WHOLE)
            hall.calm()
            self.assertEqual([len(hall.copies(at)) for at in range(3)], kept)

    def test_clocks(self):
        for clocks in ((), [0, 0], [5, -7], (-GREATEST, GREATEST)):
            hall = Hall([-1, 0], clocks=clocks)
            shown = list(clocks) or [0, 0]
            for ticks in (0, 1, 4, GREATEST):
                hall.wait(ticks)
                shown = [clock + ticks for clock in shown]
                for at in range(2):
                    hall.ask(at, WHOLE)
                    self.assertEqual(hall.errands(at)[0][3], shown[at])
                    hall.fall(at)
            self.assertEqual(hall.tick, 5 + GREATEST)

    def test_ups_that_are_none(self):
        for ups in ([], (), [-1] * 13, [-1] * 40, [0], [1], [-2], [-1, 1], [-1, 2], [-1, -2], [-1, 0, 2],
                    [-1, 0, GREATEST], [-GREATEST], [-1, 0, 0, 4]):
            self.refused("ups", ups)
            self.refused("ups", tuple(ups))

    def test_entries_of_any_kind(self):
        for thing in no_texts() + ["", "0", "-1", Stubborn()]:
            if not (isinstance(thing, int) and not isinstance(thing, bool)):
                self.refused("ups", [thing])
                self.refused("ups", [-1, thing])
                self.refused("clocks", [-1, 0], clocks=[0, thing])
                self.refused("clocks", [-1], clocks=(thing,))
                if thing is not None:
                    self.refused("rooms", [-1], rooms=[thing])
                    self.refused("rooms", [-1, 0, 0], rooms=(None, thing, 5))
            self.refused("kinds", [-1], kinds=[thing])
            self.refused("kinds", [-1, 0], kinds=("shared", thing))

    def test_truths_are_no_numbers(self):
        for truth in (True, False):
            self.refused("ups", [-1, truth])
            self.refused("ups", [-1, 0, truth])
            self.refused("rooms", [-1, 0], rooms=[None, truth])
            self.refused("clocks", [-1, 0], clocks=[truth, 0])

    def test_kinds_that_are_none(self):
        for kinds in (["Shared"], ["shared "], ["shared,own"], ["s"], ["lodge"], ["doors"], ["shared"] * 2,
                      ["own"] * 12):
            self.refused("kinds", [-1], kinds=kinds)
        self.refused("kinds", [-1, 0], kinds=["shared"])
        self.refused("kinds", [-1, 0], kinds=["shared", "own", "door"])

    def test_rooms_that_are_none(self):
        for rooms in ([-1], [-GREATEST], [None] * 2, [5, 5]):
            self.refused("rooms", [-1], rooms=rooms)
        self.refused("rooms", [-1, 0], rooms=[None])

    def test_clocks_that_are_none(self):
        for clocks in ([0, 0], [5] * 3):
            self.refused("clocks", [-1], clocks=clocks)
        self.refused("clocks", [-1, 0], clocks=[0])

    def test_the_first_that_is_so(self):
        wrong = {"kinds": ["x"], "rooms": [-5], "clocks": [None]}
        order = ["kinds", "rooms", "clocks"]
        for many in range(1, 4):
            for names in itertools.combinations(order, many):
                self.refused(names[0], [-1], **{name: wrong[name] for name in names})
                self.refused("ups", [0], **{name: wrong[name] for name in names})
                self.refused("ups", [], **{name: wrong[name] for name in names})

    def test_some_where_there_is_no_hall(self):
        self.refused("ups", [], kinds=["shared"], rooms=[None], clocks=[0])

    def test_handed_in_by_name(self):
        self.assertRaises(TypeError, Hall, [-1], ["shared"])
        self.assertRaises(TypeError, Hall)

    def test_what_is_handed_in_stays_and_may_be_changed(self):
        ups, kinds, rooms, clocks = [-1, 0], ["shared", "door"], [None, 4], [3, -3]
        hall = Hall(ups, kinds=kinds, rooms=rooms, clocks=clocks)
        self.assertEqual((ups, kinds, rooms, clocks), ([-1, 0], ["shared", "door"], [None, 4], [3, -3]))
        for row in (ups, kinds, rooms, clocks):
            row.clear()
        hall.ask(1, WHOLE)
        self.assertEqual(hall.letters(), [(0, "ask", 1, 0, 0, (FIRM, 0))])
        self.assertEqual(hall.errands(1), [(0, "ask", "a", -3, (("asker", 0),))])


class Asking(unittest.TestCase):
    def test_askers_are_numbered_in_their_order(self):
        hall = Hall([-1, 0])
        numbers = [hall.ask(0, WHOLE), hall.write(1, "a", Page("x")), hall.ask(1, Ask("a", wish="kept")),
                   hall.ask(1, WHOLE)]
        self.assertEqual(numbers, [0, 1, 2, 3])
        self.assertEqual(hall.errands(0), [(0, "ask", "a", 0, (("asker", 0),))])
        self.assertEqual(hall.errands(1), [(0, "write", "a", 0, (("asker", 1),)), (1, "ask", "a", 0, (("asker", 3),))])

    def test_through_several_lodges(self):
        hall = hall_with([-1, 0, 1], clocks=[10, 20, 30])
        ask = Ask("a", heads={"lang": "x"}, spans=[(0, 4)], unless=["s9"], wish="left 1")
        above = ("a", (("lang", "x"),), ((0, 4),), (), None, "left 1, firm")
        hall.wait(1)
        self.assertEqual(hall.ask(2, ask), 0)
        self.assertEqual(hall.happened(), [("sent", 0)])
        hall.wait(1)
        self.assertEqual(hall.come(0), [("sent", 1)])
        hall.wait(1)
        self.assertEqual(hall.come(1), [("sent", 2)])
        self.assertEqual(hall.errands(0), [(0, "ask", "a", 13, (("lodge", 1, 0),))])
        self.assertEqual(hall.errands(1), [(0, "ask", "a", 22, (("lodge", 2, 0),))])
        hall.wait(1)
        self.assertEqual(hall.come(2), [("sent", 3)])
        hall.wait(1)
        for letter in (3, 4):
            self.assertEqual(hall.come(letter), [("sent", letter + 1)])
        hall.wait(1)
        self.assertEqual(hall.come(5), [("told", 0)])
        part = ("part", "s0", 20, ((0, "Some"),))
        page = ("keep 5", (), ())
        self.assertEqual(hall.letters(), [
            (1, "ask", 2, 1, 0, (above, 0)), (2, "ask", 1, 0, 0, (above, 0)), (3, "ask", 0, -1, 0, (above, 0)),
            (4, "answer", -1, 0, 0, (part + (0, 1, ()),) + page),
            (5, "answer", 0, 1, 0, (part + (2, 1, ((0, 0, 2),)),) + page),
            (5, "answer", 1, 2, 0, (part + (5, 1, ((1, 0, 3), (0, 0, 2))),) + page)])
        self.assertEqual(hall.answers(), [(0, 2, 1, 6, ask.told(), part + (10, 1, ((2, 0, 5), (1, 0, 3), (0, 0, 2))))])

    def test_the_least_goes_up(self):
        hall = hall_with([-1, 0])
        hall.take_back(paths=["a"])
        hall.wait(1)
        hall.come(0)
        self.assertEqual(hall.letters()[1], (1, "back", 0, 1, None, (("a",), (), 2)))
        hall.come(1)
        hall.ask(1, WHOLE)
        self.assertEqual(hall.letters()[2], (1, "ask", 1, 0, 0, (FIRM, 2)))
        hall.come(2)
        self.assertEqual(hall.letters()[3], (1, "ask", 0, -1, 0, (FIRM, 2)))

    def test_the_least_takes_effect_above(self):
        hall = Hall([-1, 0])
        hall.put("a", Page("tagged", rule="keep 50", tags=["t"]))
        hall.ask(1, WHOLE)
        for letter in range(3):
            hall.come(letter)
        late = 3
        hall.put("a", Page("without", rule="keep 50"))
        hall.ask(0, Ask("a", wish="anew"))
        hall.come(4)
        hall.come(5)
        hall.take_back(tags=["t"])
        hall.come(6)
        hall.come(7)
        self.assertEqual([copy[3:7:3] for copy in hall.copies(0)], [("s1", 2)])
        # What comes late is below the floor of its tag; the copy above may not do for the errand that is begun anew.
        self.assertEqual(hall.come(late), [("sent", 8)])
        self.assertEqual(hall.letters()[8], (0, "ask", 1, 0, 1, (FIRM, 3)))
        self.assertEqual(hall.come(8), [("sent", 9)])
        self.assertEqual(hall.letters()[9], (0, "ask", 0, -1, 2, (FIRM, 3)))
        self.assertEqual((hall.floors(0), hall.copies(0)), ([("path", "a", 3), ("tag", "t", 3)], []))

    def test_served_at_once(self):
        hall = hall_with([-1])
        hall.ask(0, WHOLE)
        hall.calm()
        hall.wait(2)
        sent = len(hall.letters())
        self.assertEqual(hall.ask(0, Ask("a", spans=[(0, 4)])), 1)
        self.assertEqual(hall.happened(), [("told", 1)])
        self.assertEqual(hall.ask(0, Ask("b", wish="kept")), 2)
        self.assertEqual(hall.happened(), [("told", 2)])
        self.assertEqual(len(hall.letters()), sent)
        self.assertEqual(hall.answers()[1:], [
            (1, 0, 2, 2, ("a", (), ((0, 4),), (), None, ""), ("part", "s0", 20, ((0, "Some"),), 2, 1, ((0, 0, 2),))),
            (2, 0, 2, 2, ("b", (), (), (), None, "kept"), UNKEPT)])

    def test_served_worn(self):
        hall = hall_with([-1], "worn 9")
        hall.ask(0, WHOLE)
        hall.calm()
        hall.ask(0, WHOLE)
        self.assertEqual(hall.happened(), [("told", 1), ("sent", 2)])
        self.assertEqual(hall.letters()[2], (0, "ask", 0, -1, 1, (("a", (), (), ("s0",), None, "firm"), 0)))
        self.assertEqual(hall.come(2), [("sent", 3)])
        self.assertEqual(hall.come(3), [])

    def test_several_who_wait(self):
        hall = hall_with([-1, 0, 0])
        for lodge in (0, 1, 2, 1, 0):
            hall.ask(lodge, WHOLE)
        self.assertEqual([letter[2:4] for letter in hall.letters()], [(0, -1), (1, 0), (2, 0)])
        self.assertEqual([hall.come(letter) for letter in (2, 1, 0)], [[], [], [("sent", 3)]])
        self.assertEqual(hall.errands(0)[0][4], (("asker", 0), ("asker", 4), ("lodge", 2, 0), ("lodge", 1, 0)))
        self.assertEqual(hall.come(3), [("told", 0), ("told", 4), ("sent", 4), ("sent", 5)])
        self.assertEqual([letter[3] for letter in hall.letters()[4:]], [2, 1])
        self.assertEqual(hall.come(5), [("told", 1), ("told", 3)])
        self.assertEqual(hall.come(4), [("told", 2)])


class Writing(unittest.TestCase):
    def test_through_several_lodges(self):
        hall = hall_with([-1, 0, 1])
        page = Page("new", rule="keep 4", tags=["t"], turns=["lang"], forms=[(["x"], "y")])
        hall.wait(2)
        self.assertEqual(hall.write(2, "a", page, on="s0"), 0)
        self.assertEqual(hall.happened(), [("sent", 0)])
        hall.wait(1)
        self.assertEqual([hall.come(at) for at in range(6)], [[("sent", at + 1)] for at in range(5)] + [[("told", 0)]])
        what = ("a", page.told(), "s0", (2, 0))
        written = ("written", None, 0, (), 0, 2, ())
        self.assertEqual(hall.letters(), [
            (2, "write", 2, 1, 0, what), (3, "write", 1, 0, 0, what), (3, "write", 0, -1, 0, what),
            (3, "answer", -1, 0, 0, (written, "", (), ())), (3, "answer", 0, 1, 0, (written, "", (), ())),
            (3, "answer", 1, 2, 0, (written, "", (), ()))])
        self.assertEqual(hall.answers(), [(0, 2, 2, 3, ("a", page.told(), "s0"), written)])
        self.assertEqual(hall.book()[1], (3, "a", page))
        self.assertIs(hall.book()[1][2], page)
        self.assertEqual([hall.floors(at) for at in range(3)], [[("path", "a", 2)]] * 3)

    def test_on_another_mark(self):
        hall = hall_with([-1])
        hall.write(0, "a", Page("new"), on="s7")
        self.assertEqual(hall.calm(), 2)
        self.assertEqual(hall.answers()[0][4:], (("a", Page("new").told(), "s7"), ("changed", "s0", 0, (), 0, 1, ())))
        self.assertEqual((len(hall.book()), hall.floors(0)), (1, []))

    def test_a_letter_that_comes_again_writes_nothing_twice(self):
        hall = hall_with([-1, 0])
        hall.write(1, "a", Page("new"))
        for letter in (0, 0, 1, 2, 1):
            hall.come(letter)
        # The lodge above took it for two errands, but by is the same.
        self.assertEqual([letter[5][3] for letter in hall.letters() if letter[1] == "write"], [(1, 0)] * 3)
        hall.calm()
        self.assertEqual([deed[1] for deed in hall.book()], ["a", "a"])
        self.assertEqual(len(hall.answers()), 1)

    def test_a_letter_that_comes_again_is_answered_again(self):
        hall = hall_with([-1])
        hall.write(0, "a", Page("new"))
        hall.put("a", Page("other"))
        self.assertEqual([hall.come(0), hall.come(0)], [[("sent", 1)], [("sent", 2)]])
        self.assertEqual(hall.letters()[1][5], hall.letters()[2][5])
        self.assertEqual(hall.come(2), [("told", 0)])
        self.assertEqual(hall.come(1), [])

    def test_handed_in_by_name(self):
        hall = Hall([-1])
        self.assertRaises(TypeError, hall.write, 0, "a", Page("x"), "s0")
        self.assertRaises(TypeError, hall.put, "a", Page("x"), True)
        self.assertRaises(TypeError, hall.take_back, ["a"])


class Putting(unittest.TestCase):
    def test_without_tell(self):
        hall = Hall([-1])
        self.assertEqual([hall.put("a", Page("x")), hall.put("a", Page("x")), hall.put("b", Page(None), tell=False)],
                         [1, 2, 3])
        self.assertEqual((hall.letters(), hall.happened()), ([], []))
        self.assertEqual([deed[:2] for deed in hall.book()], [(0, "a"), (0, "a"), (0, "b")])

    def test_with_tell(self):
        hall = Hall([-1, 0, -1, 2, -1])
        hall.put("z", Page("x"))
        hall.wait(4)
        self.assertEqual(hall.put("a/b", Page("x", tags=["t"]), tell=True), 2)
        self.assertEqual(hall.letters(), [(4, "back", -1, to, None, (("a/b",), (), 2)) for to in (0, 2, 4)])
        self.assertEqual(hall.happened(), [])

    def test_taking_back(self):
        hall = Hall([-1, 0, -1, 2, -1])
        hall.wait(1)
        paths, tags = ["b", "a"], ["u", "t"]
        self.assertEqual(hall.take_back(paths=paths, tags=tags), 1)
        self.assertEqual(hall.take_back(tags=("t",)), 2)
        self.assertEqual(hall.take_back(paths=("a",)), 3)
        self.assertEqual(hall.take_back(), 4)
        whats = [(("b", "a"), ("u", "t"), 1), ((), ("t",), 2), (("a",), (), 3), ((), (), 4)]
        expected = [(1, "back", -1, to, None, what) for what in whats for to in (0, 2, 4)]
        self.assertEqual(hall.letters(), expected)
        self.assertEqual({type(row) for letter in hall.letters() for row in (letter, letter[5], *letter[5][:2])},
                         {tuple})
        paths.clear()
        tags.clear()
        self.assertEqual(hall.letters(), expected)
        self.assertEqual(hall.book(), [(1, None, None)] * 4)

    def test_letters_go_down_each_time_that_they_come(self):
        hall = Hall([-1, 0, 0, 1, -1])
        hall.take_back(paths=["a"], tags=["t"])
        what = (("a",), ("t",), 1)
        hall.wait(2)
        self.assertEqual(hall.come(0), [("sent", 2), ("sent", 3)])
        self.assertEqual(hall.come(0), [("sent", 4), ("sent", 5)])
        self.assertEqual(hall.letters()[2:], [(2, "back", 0, to, None, what) for to in (1, 2, 1, 2)])
        self.assertEqual(hall.floors(0), [("path", "a", 1), ("tag", "t", 1)])
        self.assertEqual([hall.floors(at) for at in (1, 2, 3, 4)], [[]] * 4)
        self.assertEqual(hall.come(4), [("sent", 6)])
        self.assertEqual((hall.come(6), hall.come(3), hall.come(1)), ([], [], []))
        self.assertEqual(len({str(hall.floors(at)) for at in range(5)}), 1)

    def test_late_and_in_any_order(self):
        hall = hall_with([-1], "keep 50, alone 9")
        for at in range(3):
            hall.take_back(paths=["a"])
        hall.come(2)
        hall.ask(0, WHOLE)
        hall.calm()
        self.assertEqual((hall.floors(0), len(hall.copies(0))), ([("path", "a", 4)], 1))
        for letter in (0, 1, 2, 2):
            hall.come(letter)
            self.assertEqual((hall.floors(0), len(hall.copies(0))), ([("path", "a", 4)], 1))


class Late(unittest.TestCase):
    def test_an_answer_of_long_ago(self):
        hall = hall_with([-1])
        hall.ask(0, WHOLE)
        hall.come(0)
        hall.put("a", Page("new"))
        hall.come(0)
        hall.wait(30)
        self.assertEqual(hall.come(2), [("told", 0)])
        self.assertEqual(hall.answers()[0][5], ("whole", "s1", 3, ((0, "new"),), 30, 2, ((0, 0, 30),)))
        self.assertEqual(hall.come(1), [])
        self.assertEqual(hall.copies(0)[0][3], "s1")

    def test_below_the_floor_it_is_asked_anew(self):
        hall = hall_with([-1])
        hall.ask(0, WHOLE)
        hall.come(0)
        hall.take_back(paths=["a"])
        hall.come(2)
        self.assertEqual(hall.come(1), [("sent", 3)])
        self.assertEqual(hall.letters()[3], (0, "ask", 0, -1, 1, (FIRM, 2)))
        self.assertEqual([hall.come(3), hall.come(4)], [[("sent", 4)], [("told", 0)]])

    def test_letters_that_never_come(self):
        hall = hall_with([-1, 0])
        hall.ask(1, WHOLE)
        hall.wait(99)
        self.assertEqual((hall.answers(), hall.errands(1)[0][0]), ([], 0))
        self.assertEqual(hall.give_up(1, 0), [("told", 0)])
        self.assertEqual(hall.answers(), [(0, 1, 0, 99, WHOLE.told(), SILENT)])

    def test_an_ask_that_comes_again(self):
        hall = hall_with([-1, 0])
        hall.ask(1, WHOLE)
        self.assertEqual([hall.come(0), hall.come(0)], [[("sent", 1)], []])
        self.assertEqual(hall.errands(0)[0][4], (("lodge", 1, 0),) * 2)
        hall.come(1)
        self.assertEqual(hall.come(2), [("sent", 3), ("sent", 4)])
        self.assertEqual([hall.come(4), hall.come(3)], [[("told", 0)], []])

    def test_silent_from_above(self):
        hall = hall_with([-1, 0])
        hall.ask(1, WHOLE)
        hall.come(0)
        self.assertEqual(hall.give_up(0, 0), [("sent", 2)])
        self.assertEqual(hall.letters()[2], (0, "answer", 0, 1, 0, (SILENT, "", (), ())))
        self.assertEqual(hall.come(2), [("told", 0)])
        self.assertEqual(hall.answers()[0][5], SILENT)

    def test_a_writing_given_up(self):
        hall = hall_with([-1])
        hall.write(0, "a", Page("x"))
        self.assertEqual(hall.give_up(0, 0), [("told", 0)])
        self.assertEqual(hall.answers(), [(0, 0, 0, 0, ("a", Page("x").told(), None), SILENT)])
        hall.calm()
        self.assertEqual((len(hall.book()), len(hall.answers())), (2, 1))

    def test_falls(self):
        hall = hall_with([-1, 0])
        hall.ask(1, WHOLE)
        hall.come(0)
        self.assertIsNone(hall.fall(0))
        self.assertEqual((hall.errands(0), hall.errands(1)[0][0]), ([], 0))
        hall.calm()
        self.assertEqual((hall.answers(), hall.copies(0)), ([], []))
        # The asker waits for an errand that is lost above; a letter that comes again brings another one.
        hall.come(0)
        hall.calm()
        self.assertEqual([telling[0] for telling in hall.answers()], [0])
        self.assertEqual(hall.answers()[0][5][6], ((1, 0, 0), (0, 1, 0)))


class Refused(unittest.TestCase):
    def refused(self, why, deed, *handed, **more):
        with self.assertRaises(NoDeed) as caught:
            deed(*handed, **more)
        self.assertEqual(caught.exception.why, why)

    def busy(self):
        hall = hall_with([-1, 0], "worn 5")
        hall.ask(1, WHOLE)
        hall.calm()
        hall.ask(1, WHOLE)
        hall.write(0, "b", Page("x"))
        hall.take_back(paths=["a"])
        hall.wait(3)
        return hall

    def test_no_such_lodge(self):
        hall = self.busy()
        before = all_of(hall)
        for lodge in (2, 12, -1, -2, GREATEST, -GREATEST, None, True, "0"):
            self.refused("lodge", hall.ask, lodge, WHOLE)
            self.refused("lodge", hall.ask, lodge, Ask("b", wish="kept"))
            self.refused("lodge", hall.write, lodge, "a", Page("x"))
            self.refused("lodge", hall.write, lodge, "a", Page("x"), on="s0")
            self.refused("lodge", hall.fall, lodge)
            self.refused("lodge", hall.give_up, lodge, 0)
            self.refused("lodge", hall.give_up, lodge, 999)
        self.assertEqual(all_of(hall), before)

    def test_no_such_letter(self):
        hall = self.busy()
        before = all_of(hall)
        for letter in (len(before[1]), -1, GREATEST, -GREATEST, None, True, "0"):
            self.refused("letter", hall.come, letter)
        self.assertEqual(all_of(hall), before)
        self.refused("letter", Hall([-1]).come, 0)

    def test_ticks_below_nought(self):
        hall = self.busy()
        before = all_of(hall)
        for ticks in (-1, -GREATEST):
            self.refused("ticks", hall.wait, ticks)
        self.assertEqual(all_of(hall), before)

    def test_no_such_errand(self):
        hall = self.busy()
        before = all_of(hall)
        self.assertEqual([row[0] for row in hall.errands(0)], [1])
        for lodge, errand in [(0, 0), (0, 2), (0, -1), (1, 0), (1, 2), (1, GREATEST)]:
            self.refused("errand", hall.give_up, lodge, errand)
        self.assertEqual(all_of(hall), before)

    def test_askers_are_numbered_on_behind_it(self):
        hall = self.busy()
        self.refused("lodge", hall.ask, 7, WHOLE)
        self.refused("lodge", hall.write, 7, "a", Page("x"))
        self.assertEqual(hall.ask(0, WHOLE), 3)


class Told(unittest.TestCase):
    def test_what_happened_last(self):
        hall = hall_with([-1, 0])
        self.assertEqual(hall.happened(), [])
        hall.put("b", Page("y"), tell=True)
        hall.come(0)
        self.assertEqual(hall.happened(), [])
        hall.ask(1, WHOLE)
        self.assertEqual(hall.happened(), [("sent", 2)])
        for deed in (hall.calm, lambda: hall.wait(2), lambda: hall.put("c", Page("z"), tell=True), lambda: hall.fall(1),
                     lambda: hall.take_back(paths=["q"]), lambda: hall.come(0)):
            deed()
            self.assertEqual(hall.happened(), [("sent", 2)])
        hall.write(0, "a", Page("w"))
        self.assertEqual(hall.happened(), [("sent", len(hall.letters()) - 1)])
        hall.ask(1, Ask("a", wish="kept"))
        self.assertEqual(hall.happened(), [("told", 2)])
        hall.ask(0, Ask("d"))
        hall.ask(0, Ask("d"))
        self.assertEqual(hall.happened(), [])

    def test_lists_are_new_ones(self):
        hall = hall_with([-1, 0], "keep 3, worn 9")
        hall.ask(1, WHOLE)
        hall.calm()
        hall.take_back(paths=["q"])
        hall.calm()
        hall.wait(4)
        hall.ask(1, WHOLE)
        before = all_of(hall)
        for call in (hall.letters, hall.answers, hall.happened, hall.book, lambda: hall.copies(1),
                     lambda: hall.floors(1), lambda: hall.errands(1), lambda: hall.reasons(1, WHOLE)):
            first = call()
            self.assertIs(type(first), list)
            self.assertNotEqual(first, [])
            first.clear()
            again = call()
            self.assertNotEqual(again, [])
            self.assertEqual({type(row) for row in again}, {tuple})
        self.assertEqual(all_of(hall), before)
        for happenings in (hall.come(len(before[1]) - 1), hall.give_up(1, 1)):
            self.assertIs(type(happenings), list)
            seen = all_of(hall)
            happenings.append(None)
            self.assertEqual(all_of(hall), seen)

    def test_of_a_lodge(self):
        hall = hall_with([-1, 0], "keep 3")
        hall.ask(1, WHOLE)
        hall.calm()
        hall.wait(1)
        self.assertEqual(hall.reasons(0, WHOLE), [("serves", "fresh")])
        self.assertEqual(hall.reasons(1, Ask("a", wish="left 9")), [("left",)])
        self.assertEqual(hall.copies(0), [("a", (), (), "s0", 20, ((0, TEXT),), 1, 1, "keep 3", (), ((0, 0, 1),))])
        self.assertEqual(hall.copies(1)[0][10], ((1, 0, 1), (0, 0, 0)))

    def test_the_book(self):
        hall = Hall([-1])
        pages = [Page("x"), Page("y"), Page(None)]
        hall.put("a", pages[0])
        hall.wait(3)
        hall.write(0, "a", pages[1])
        hall.wait(3)
        self.assertEqual(len(hall.book()), 1)
        hall.calm()
        hall.take_back(tags=["t"])
        hall.wait(1)
        hall.write(0, "a", pages[1], on="s0")
        hall.calm()
        hall.put("b", pages[2])
        self.assertEqual(hall.book(), [(0, "a", pages[0]), (6, "a", pages[1]), (6, None, None), (7, "b", pages[2])])
        for deed, page in zip([hall.book()[0], hall.book()[1], hall.book()[3]], pages):
            self.assertIs(deed[2], page)

    def test_answers_in_the_order_told(self):
        hall = hall_with([-1, -1])
        for lodge in (0, 1, 0):
            hall.ask(lodge, WHOLE)
            hall.wait(1)
        hall.come(1)
        hall.come(2)
        hall.come(0)
        hall.come(3)
        self.assertEqual([telling[:4] for telling in hall.answers()], [(1, 1, 1, 3), (0, 0, 0, 3), (2, 0, 2, 3)])

    def test_tuples_within(self):
        hall = hall_with([-1, 0])
        hall.put("a", Page(TEXT, turns=["lang"], tags=["t"], rule="keep 2"))
        hall.ask(1, Ask("a", heads={"lang": "x"}, spans=[(0, 2), (5, None)], unless=["s9"]))
        hall.calm()
        asks = [letter[5] for letter in hall.letters() if letter[1] == "ask"]
        self.assertEqual({type(row) for what in asks for row in (what, what[0], *what[0][1:4], *what[0][1],
                                                                 *what[0][2])}, {tuple})
        answers = [letter[5] for letter in hall.letters() if letter[1] == "answer"]
        self.assertEqual({type(row) for what in answers for row in (what, what[0], what[2], what[3], what[0][3],
                                                                    what[0][6],
                                                                   *what[0][3], *what[0][6])}, {tuple})
        self.assertEqual(answers[0][1:], ("keep 2", ("lang",), ("t",)))
        telling = hall.answers()[0]
        self.assertEqual({type(row) for row in (telling, telling[4], telling[5])}, {tuple})


class Great(unittest.TestCase):
    def test_numbers_of_sixty_figures(self):
        hall = hall_with([-1, 0], f"keep {GREATEST}", clocks=[-GREATEST, GREATEST])
        hall.ask(1, Ask("a", wish=f"left {GREATEST}"))
        hall.wait(GREATEST)
        hall.come(0)
        hall.wait(GREATEST)
        hall.calm()
        answer = hall.answers()[0]
        self.assertEqual(answer[2:4], (0, 2 * GREATEST))
        self.assertEqual(answer[5][4:], (3 * GREATEST, 1, ((1, 0, 2 * GREATEST), (0, 0, GREATEST))))


class Drawn(unittest.TestCase):
    """Rows of drawn deeds: what is told of them goes together."""

    def test_happenings_tell_of_all_letters_and_answers(self):
        for seed in range(60):
            chance = random.Random(seed)
            lodges = chance.randrange(1, 13)
            hall = Hall([chance.randrange(-1, at) for at in range(lodges)])
            told, sent = [], 0
            for deed in range(60):
                letters = hall.letters()
                drawn = chance.random()
                if drawn < 0.4:
                    hall.ask(chance.randrange(lodges), drawn_ask(chance))
                    happenings = hall.happened()
                elif drawn < 0.5:
                    hall.write(chance.randrange(lodges), "a", drawn_page(chance))
                    happenings = hall.happened()
                elif letters:
                    happenings = hall.come(chance.randrange(max(0, len(letters) - 5), len(letters)))
                else:
                    happenings = []
                self.assertEqual([at for word, at in happenings if word == "sent"],
                                 list(range(len(letters), len(hall.letters()))))
                told += [at for word, at in happenings if word == "told"]
                self.assertEqual([telling[0] for telling in hall.answers()], told)
                self.assertEqual(hall.letters()[:len(letters)], letters)


if __name__ == "__main__":
    unittest.main()
