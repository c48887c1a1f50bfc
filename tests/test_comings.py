"""Points 29 to 31: answers that come, errands that are given up, writings, takings back and falls."""

import unittest

from pagelodge.asks import Answer, Ask
from pagelodge.lodges import Door, Lodge, OwnLodge
from pagelodge.pages import Page
from pagelodge.settings import Rule
from tests.samples import GREATEST, plain, who

SILENT = ("silent", None, 0, (), 0, 0, ())


def whole(text="text", mark="s0", count=1, **more):
    return Answer("whole", mark=mark, size=len(text), parts=[(0, text)] if text else [], count=count, **more)


def part(parts, mark="s0", count=1, size=20, **more):
    return Answer("part", mark=mark, size=size, parts=parts, count=count, **more)


def waited_for(*wishes, lodge=None, path="a"):
    """A lodge with errand 0, for which as many wait as there are wishes, each having asked a tick after the other."""
    made = Lodge(0) if lodge is None else lodge
    for at, wish in enumerate(wishes):
        if at:
            made.wait(1)
        made.asked(who(at), Ask(path, wish=wish))
    return made


class Came(unittest.TestCase):
    def test_for_an_errand_that_is_not_out(self):
        lodge = waited_for("")
        before = (lodge.errands(), lodge.copies(), lodge.floors())
        for errand in (1, 2, -1, GREATEST):
            for answer in (whole(), Answer("silent"), Answer("written", count=9)):
                self.assertEqual(lodge.came(errand, answer), [])
                self.assertEqual((lodge.errands(), lodge.copies(), lodge.floors()), before)
        lodge.came(0, whole())
        before = (lodge.errands(), lodge.copies(), lodge.floors())
        self.assertEqual(lodge.came(0, whole("other", "s1", count=2)), [])
        self.assertEqual((lodge.errands(), lodge.copies(), lodge.floors()), before)

    def test_the_copy_is_made_and_put_to_the_shelf(self):
        lodge = Lodge(7, clock=-2)
        lodge.asked(who(0), Ask("b"))
        lodge.came(0, whole())
        lodge.asked(who(0), Ask("a/b", heads={"lang": "de", "who": "me"}))
        lodge.wait(3)
        answer = whole("hello", "s4", count=6, age=5, rule=Rule(keep=2, common=True), turns=["who", "x"],
                       tags=["t", "u"],
                       ground=[(1, 1, 2)])
        told = ("whole", "s4", 5, ((0, "hello"),), 8, 6, ((7, 1, 3), (1, 1, 2)))
        deeds = lodge.came(1, answer)
        self.assertEqual(plain(deeds), [("told", who(0), told)])
        self.assertEqual((deeds[0][2].turns, deeds[0][2].tags), (("who", "x"), ("t", "u")))
        self.assertEqual(deeds[0][2].rule.spelled(), "keep 2, common")
        self.assertEqual(lodge.errands(), [])
        self.assertEqual(lodge.copies()[1:], [("a/b", ("who", "x"), ("me", ""), "s4", 5, ((0, "hello"),), 6, 8,
                                               "keep 2, common", ("t", "u"), ((7, 1, 3), (1, 1, 2)))])
        self.assertEqual({type(thing) for copy in lodge.copies() for thing in (copy, copy[5], copy[10])}, {tuple})
        lodge.copies().clear()
        self.assertEqual(len(lodge.copies()), 2)

    def test_the_copies_of_the_shelf_are_the_others(self):
        lodge = Lodge(0)
        for at, (worth, start) in enumerate([("x", 0), ("y", 5)]):
            lodge.asked(who(at), Ask("a", heads={"lang": worth}, spans=[(start, start + 2)]))
            lodge.came(at, part([(start, worth * 2)], turns=["lang"]))
        self.assertEqual([copy[5] for copy in lodge.copies()], [((0, "xx"),), ((0, "xx"), (5, "yy"))])

    def test_nobody_waits(self):
        lodge = waited_for("")
        lodge.came(0, whole(rule=Rule(keep=1, worn=9)))
        lodge.wait(3)
        self.assertEqual([deed[0] for deed in lodge.asked(who(1), Ask("a"))], ["told", "asks"])
        self.assertEqual(lodge.came(1, Answer("same", mark="s0", size=4, count=5)), [])
        self.assertEqual(lodge.errands(), [])
        self.assertEqual([copy[3:8] for copy in lodge.copies()], [("s0", 4, ((0, "text"),), 5, 0)])

    def test_same_and_beyond_and_gone(self):
        lodge = waited_for("")
        self.assertEqual(plain(lodge.came(0, Answer("gone", count=1)))[0][2], ("gone", None, 0, (), 0, 1, ((0, 0, 0),)))
        self.assertEqual(lodge.copies()[0][3:6], (None, 0, ()))
        lodge.asked(who(1), Ask("a", spans=[(30, 40)]))
        self.assertEqual(plain(lodge.came(1, Answer("beyond", mark="s2", size=9, count=2)))[0][2],
                         ("beyond", "s2", 9, (), 0, 2, ((0, 1, 0),)))
        lodge.asked(who(1), Ask("a", unless=["s2"]))
        self.assertEqual(plain(lodge.came(2, Answer("same", mark="s2", size=9, count=3)))[0][2],
                         ("same", "s2", 9, (), 0, 3, ((0, 2, 0),)))
        self.assertEqual(lodge.copies()[0][3:7], ("s2", 9, (), 3))

    def test_a_newer_copy_on_the_shelf_stays_but_the_older_one_is_told(self):
        lodge = Lodge(0)
        lodge.asked(who(0), Ask("a"))
        lodge.asked(who(1), Ask("a", spans=[(0, 9)]))
        lodge.came(1, whole("newer", "s1", count=5))
        self.assertEqual(plain(lodge.came(0, whole("old", "s0", count=4)))[0][2][:6],
                         ("whole", "s0", 3, ((0, "old"),), 0, 4))
        self.assertEqual([copy[3] for copy in lodge.copies()], ["s1"])


class Silent(unittest.TestCase):
    def test_as_giving_up(self):
        for answer in (Answer("silent"), None):
            lodge = waited_for("")
            lodge.came(0, whole(rule=Rule(keep=1, alone=5)))
            lodge.wait(4)
            for at, wish in enumerate(["", "firm", "atmost 3", "atmost 4"], start=1):
                lodge.asked(who(at), Ask("a", wish=wish))
            deeds = lodge.give_up(1) if answer is None else lodge.came(1, answer)
            served = ("whole", "s0", 4, ((0, "text"),), 4, 1, ((0, 0, 4),))
            self.assertEqual(plain(deeds),
                             [("told", who(1), served), ("told", who(2), SILENT), ("told", who(3), SILENT),
                                            ("told", who(4), served)])
            self.assertEqual(lodge.errands(), [])

    def test_whatever_the_floor(self):
        lodge = waited_for("")
        lodge.heard(5, paths=["a"])
        self.assertEqual(plain(lodge.came(0, Answer("silent"))), [("told", who(0), SILENT)])
        self.assertEqual((lodge.errands(), lodge.copies()), ([], []))


class Floor(unittest.TestCase):
    def test_below_the_floor_with_nobody_waiting(self):
        lodge = waited_for("")
        lodge.came(0, whole(count=3, rule=Rule(keep=0, worn=9)))
        lodge.asked(who(1), Ask("a"))
        lodge.heard(4, tags=["t"])
        self.assertEqual(lodge.errands(), [(1, "ask", "a", 0, ())])
        self.assertEqual(lodge.came(1, whole("new", "s1", count=3, tags=["t"])), [])
        self.assertEqual((lodge.errands(), [copy[3] for copy in lodge.copies()]), ([], ["s0"]))

    def test_below_the_floor_of_the_path(self):
        lodge = waited_for("left 2", "anew", "")
        lodge.heard(4, paths=["a"])
        lodge.wait(5)
        self.assertEqual(plain(lodge.came(0, whole(count=3))),
                         [("asks", 1, ("a", (), (), (), None, "left 2, firm"), 4)])
        self.assertEqual(lodge.errands(), [(1, "ask", "a", 7, (who(0), who(1), who(2)))])
        self.assertEqual(lodge.copies(), [])

    def test_at_the_floor_it_is_kept(self):
        lodge = waited_for("")
        lodge.heard(4, paths=["a"], tags=["t"])
        self.assertEqual([deed[0] for deed in lodge.came(0, whole(count=4, tags=["t"]))], ["told"])
        self.assertEqual(len(lodge.copies()), 1)

    def test_below_the_floor_of_a_tag_that_the_answer_has(self):
        for path_floor, tag_floor, least in [(0, 5, 5), (3, 5, 5), (7, 5, 7)]:
            lodge = waited_for("")
            lodge.heard(path_floor, paths=["a"])
            lodge.heard(tag_floor, tags=["u"])
            lodge.heard(9, tags=["other"])
            lodge.heard(9, paths=["b"])
            self.assertEqual(plain(lodge.came(0, whole(count=4, tags=["t", "u"]))),
                             [("asks", 1, ("a", (), (), (), None, "firm"), least)])

    def test_who_only_came_to_wait_begins_it_anew(self):
        lodge = waited_for("")
        lodge.came(0, whole(count=3, rule=Rule(worn=9)))
        lodge.asked(who(1), Ask("a"))
        lodge.asked(who(2), Ask("a", wish="atmost 0, anew"))
        lodge.heard(4, tags=["t"])
        self.assertEqual(plain(lodge.came(1, whole("new", "s1", count=3, tags=["t"]))),
                         [("asks", 2, ("a", (), (), ("s0",), None, "atmost 0, anew, firm"), 4)])
        # The errand is its own now: it is told whatever it wished.
        answer = whole("new", "s1", count=4, tags=["t"], age=50, rule=Rule(never=True))
        self.assertEqual([deed[:2] for deed in lodge.came(2, answer)], [("told", who(2))])

    def test_each_has_asked_when_it_did(self):
        lodge = waited_for("", "firm", "firm")
        lodge.wait(3)
        lodge.heard(4, paths=["a"])
        lodge.came(0, whole(count=3))
        lodge.wait(2)
        # By now they have waited for 7, 6 and 5 ticks.
        deeds = lodge.came(1, whole(count=4, age=4))
        self.assertEqual([deed[:2] for deed in deeds], [("told", who(0)), ("told", who(1)), ("asks", 2)])
        self.assertEqual(lodge.errands(), [(2, "ask", "a", 7, (who(2),))])

    def test_held_is_looked_for_anew(self):
        lodge = waited_for("")
        lodge.came(0, whole(count=3))
        self.assertEqual(plain(lodge.asked(who(1), Ask("a")))[0][2][3], ("s0",))
        lodge.heard(4, paths=["a"])
        self.assertEqual(plain(lodge.came(1, Answer("same", mark="s0", size=4, count=3))),
                         [("asks", 2, ("a", (), (), (), None, "firm"), 4)])


class Waiters(unittest.TestCase):
    """Who of those who wait is told, each cause by itself."""

    def told(self, deeds):
        return [deed[1][1] for deed in deeds if deed[0] == "told"]

    def check(self, lodge, errand, answer, told, left):
        """These are told of an answer; those who are left wait for one errand more, begun for the first of them."""
        deeds = lodge.came(errand, answer)
        self.assertEqual(self.told(deeds), told)
        self.assertEqual([deed[0] for deed in deeds], ["told"] * len(told) + ["asks"] * bool(left))
        self.assertEqual([row[4] for row in lodge.errands()], [tuple(who(at) for at in left)] * bool(left))

    def test_the_first_for_whom_it_was_begun_is_told_whatever_it_wished(self):
        for kind in (Lodge, OwnLodge, Door):
            for wish in ("", "anew", "atmost 0", "left 9", "firm"):
                for rule in (Rule(), Rule(never=True), Rule(anew=True), Rule(strict=True)):
                    self.check(waited_for(wish, lodge=kind(0)), 0, whole(age=99, rule=rule), [0], [])

    def test_the_first_if_it_only_came_to_wait(self):
        for wish, age, keep, told in [("anew", 0, 9, True), ("anew", 1, 9, False), ("firm", 8, 9, True),
                                      ("firm", 9, 9, False), ("firm", 0, 0, True), ("atmost 3", 3, 9, True),
                                      ("atmost 3", 4, 9, False)]:
            lodge = waited_for("")
            lodge.came(0, whole(rule=Rule(worn=9)))
            lodge.wait(4)
            self.assertEqual([deed[0] for deed in lodge.asked(who(1), Ask("a"))], ["told", "asks"])
            self.assertEqual(lodge.asked(who(2), Ask("a", wish=wish)), [])
            self.check(lodge, 1, whole(age=age, rule=Rule(keep=keep), count=2), [2] if told else [],
                       [] if told else [2])

    def test_no_older_than_it_has_waited(self):
        for age, told, left in [(6, [0], [1, 2]), (5, [0], [1, 2]), (4, [0, 1], [2]), (3, [0, 1, 2], []),
                                (0, [0, 1, 2], [])]:
            for wish in ("anew", "atmost 0, firm", "left 7"):
                lodge = waited_for("", wish, wish)
                lodge.wait(3)
                # By now they have waited for 5, 4 and 3 ticks; the errand is begun anew for all of them.
                lodge.heard(4, paths=["a"])
                lodge.came(0, whole(count=3))
                self.check(lodge, 1, whole(count=4, age=age, rule=Rule(keep=1)), told, left)

    def test_what_the_clock_shows_more_counts_as_age(self):
        # The second one has waited for a tick less than the errand took.
        for ticks in range(4):
            lodge = waited_for("", "anew")
            lodge.wait(ticks)
            self.check(lodge, 0, whole(rule=Rule(keep=99)), [0], [1])
        lodge = Lodge(0)
        for at in range(2):
            lodge.asked(who(at), Ask("a", wish="anew"))
        lodge.wait(3)
        self.check(lodge, 0, whole(rule=Rule(keep=99)), [0, 1], [])

    def test_may_be_served(self):
        # The age is 12, and they have waited for 2 ticks and less.
        for rule, wish, told in [(Rule(keep=13), "", True), (Rule(keep=12), "", False), (Rule(keep=12), "worn 1", True),
                                 (Rule(keep=12, worn=1), "", True), (Rule(keep=12, worn=1), "firm", False),
                                 (Rule(keep=12, alone=9), "", False), (Rule(keep=14), "left 1", True),
                                 (Rule(keep=14), "left 2", False), (Rule(keep=99), "atmost 11", False),
                                 (Rule(keep=99), "atmost 12", True), (Rule(keep=99), "anew", False),
                                 (Rule(keep=99, anew=True), "", False)]:
            lodge = waited_for("anew", wish, wish)
            self.check(lodge, 0, whole(age=10, rule=rule), [0, 1, 2] if told else [0], [] if told else [1, 2])

    def test_nothing_is_asked_anew_where_it_is_worn(self):
        lodge = waited_for("", "")
        self.assertEqual([deed[0] for deed in lodge.came(0, whole(age=10, rule=Rule(keep=1, worn=99)))],
                         ["told", "told"])
        self.assertEqual(lodge.errands(), [])

    def test_what_may_not_be_kept_is_told_to_the_first_alone(self):
        for kind, rule, heads in [(Door, Rule(keep=9), None), (Lodge, Rule(keep=9, own=True), None),
                                  (OwnLodge, Rule(keep=9, never=True), None), (Lodge, Rule(keep=9), {"who": "me"})]:
            lodge = kind(0)
            for at in range(3):
                lodge.asked(who(at), Ask("a", heads=heads))
            for at in range(3):
                self.check(lodge, at, whole(rule=rule), [at], [0, 1, 2][at + 1:])
            self.assertEqual(lodge.copies(), [])

    def test_may_be_kept_by_an_own_lodge(self):
        for rule, heads in [(Rule(keep=9, own=True), None), (Rule(keep=9), {"who": "me"})]:
            lodge = OwnLodge(0)
            for at in range(3):
                lodge.asked(who(at), Ask("a", heads=heads))
            self.check(lodge, 0, whole(rule=rule), [0, 1, 2], [])

    def test_what_lacks_something_of_its_ask_is_not_told(self):
        # The first one has the text already: so nothing is known of it, and the second one gets its own errand.
        lodge = Lodge(0)
        lodge.asked(who(0), Ask("a", spans=[(0, 2)]))
        lodge.came(0, part([(0, "so")], size=4, rule=Rule(keep=0)))
        lodge.asked(who(1), Ask("a", unless=["s0"]))
        lodge.asked(who(2), Ask("a"))
        lodge.asked(who(3), Ask("a", unless=["s0", "s5"]))
        lodge.asked(who(4), Ask("a"))
        self.check(lodge, 1, Answer("same", mark="s0", size=4, count=1), [1, 3], [2, 4])
        self.check(lodge, 2, part([(2, "me")], size=4), [2, 4], [])

    def test_those_who_are_left_keep_their_order_and_the_first_is_asked_for(self):
        lodge = waited_for("anew", "atmost 9, anew", "", "left 3, anew", "firm")
        lodge.wait(1)
        deeds = lodge.came(0, whole(age=7, rule=Rule(keep=20)))
        self.assertEqual(self.told(deeds), [0, 2, 4])
        self.assertEqual(plain(deeds)[-1], ("asks", 1, ("a", (), (), ("s0",), None, "atmost 9, anew, firm"), 0))
        self.assertEqual(lodge.errands(), [(1, "ask", "a", 5, (who(1), who(3)))])
        lodge.wait(1)
        # It was begun for the second one, so that is told; the fourth one has waited for 3 ticks.
        self.check(lodge, 1, whole(age=3, rule=Rule(keep=20), count=2), [1], [3])
        self.assertEqual(lodge.errands(), [(2, "ask", "a", 6, (who(3),))])
        self.check(lodge, 2, whole(age=99, rule=Rule(never=True), count=3), [3], [])

    def test_each_is_told_what_it_asked(self):
        lodge = Lodge(0)
        lodge.asked(who(0), Ask("a", spans=[(1, 3)]))
        lodge.asked(who(1), Ask("a", spans=[(1, 3)], unless=["s0"]))
        self.assertEqual(plain(lodge.came(0, part([(1, "xy")]))),
                         [("told", who(0), ("part", "s0", 20, ((1, "xy"),), 0, 1, ((0, 0, 0),))),
                          ("told", who(1), ("same", "s0", 20, (), 0, 1, ((0, 0, 0),)))])

    def test_one_who_waits_twice_is_told_twice(self):
        lodge = Lodge(0)
        for at in range(2):
            lodge.asked(("lodge", 1, 5), Ask("a"))
        self.assertEqual([deed[:2] for deed in lodge.came(0, whole())], [("told", ("lodge", 1, 5))] * 2)


class GivenUp(unittest.TestCase):
    def test_an_errand_that_is_not_out(self):
        lodge = waited_for("")
        for errand in (1, -1, GREATEST):
            self.assertEqual(lodge.give_up(errand), [])
        self.assertEqual(lodge.errands(), [(0, "ask", "a", 0, (who(0),))])

    def test_with_nothing_on_the_shelf(self):
        lodge = waited_for("", "anew", "firm")
        self.assertEqual(plain(lodge.give_up(0)), [("told", who(at), SILENT) for at in range(3)])
        self.assertEqual(lodge.errands(), [])
        self.assertEqual(lodge.give_up(0), [])

    def test_silent_bears_nothing(self):
        answer = waited_for("").give_up(0)[0][2]
        self.assertIs(type(answer), Answer)
        self.assertEqual((answer.rule.spelled(), answer.turns, answer.tags), ("", (), ()))

    def test_where_no_answer_comes(self):
        for rule, age, wish, served in [(Rule(keep=3, alone=4), 6, "", True), (Rule(keep=3, alone=4), 7, "", False),
                                        (Rule(keep=3, alone=4), 6, "firm", False),
                                        (Rule(keep=3, alone=4), 6, "left 1", False),
                                        (Rule(keep=3, alone=4, strict=True), 6, "", False),
                                        (Rule(keep=3), 3, "", False),
                                        (Rule(keep=3, alone=4), 6, "anew", False), (Rule(alone=4), 3, "atmost 3", True),
                                        (Rule(alone=4), 3, "atmost 2", False),
                                        (Rule(alone=4, anew=True), 3, "", False)]:
            lodge = waited_for("")
            lodge.came(0, whole(rule=rule))
            lodge.wait(age)
            self.assertEqual([deed[0] for deed in lodge.asked(who(1), Ask("a", wish=wish))], ["asks"])
            self.assertEqual(plain(lodge.give_up(1))[0][2][0], "whole" if served else "silent", (rule.spelled(), wish))

    def test_by_the_newest_copy_that_fits(self):
        lodge = Lodge(0)
        for at, worth in enumerate("xy"):
            lodge.asked(who(at), Ask("a", heads={"lang": worth}))
            lodge.came(at, whole(worth * 3, f"s{at}", count=at + 1, rule=Rule(alone=9), turns=["lang"]))
        for at, worth in enumerate("xyz", start=2):
            lodge.asked(who(at), Ask("a", heads={"lang": worth}))
        self.assertEqual([plain(lodge.give_up(at))[0][2][:2] for at in (2, 3, 4)],
                         [("whole", "s0"), ("whole", "s1"), ("silent", None)])

    def test_where_it_lacks_something(self):
        lodge = Lodge(0)
        lodge.asked(who(0), Ask("a", spans=[(0, 2)]))
        lodge.came(0, part([(0, "so")], rule=Rule(alone=9)))
        lodge.asked(who(1), Ask("a"))
        lodge.asked(who(2), Ask("a", unless=["s0"]))
        lodge.asked(who(3), Ask("a", spans=[(0, 2)]))
        self.assertEqual(plain(lodge.give_up(1)), [("told", who(1), SILENT),
                                                   ("told", who(2), ("same", "s0", 20, (), 0, 1, ((0, 0, 0),)))])
        self.assertEqual(plain(lodge.give_up(2)),
                         [("told", who(3), ("part", "s0", 20, ((0, "so"),), 0, 1, ((0, 0, 0),)))])

    def test_the_copy_comes_last_in_the_row(self):
        lodge = Lodge(0)
        for at, path in enumerate("abc"):
            lodge.asked(who(0), Ask(path))
            lodge.came(at, whole(rule=Rule(alone=9)))
        lodge.asked(who(0), Ask("a"))
        lodge.asked(who(0), Ask("b", wish="anew"))
        lodge.give_up(3)
        self.assertEqual([copy[0] for copy in lodge.copies()], ["b", "c", "a"])
        lodge.give_up(4)
        self.assertEqual([copy[0] for copy in lodge.copies()], ["b", "c", "a"])

    def test_one_for_which_nobody_waits(self):
        lodge = waited_for("")
        lodge.came(0, whole(rule=Rule(worn=9)))
        lodge.asked(who(1), Ask("a"))
        self.assertEqual(lodge.give_up(1), [])
        self.assertEqual(lodge.errands(), [])

    def test_a_writing(self):
        lodge = Lodge(0)
        lodge.writes(who(3), "a", Page("x"))
        self.assertEqual(plain(lodge.give_up(0)), [("told", who(3), SILENT)])
        self.assertEqual(lodge.errands(), [])
        self.assertEqual(lodge.came(0, Answer("written", count=1)), [])
        self.assertEqual(lodge.floors(), [])


class Writings(unittest.TestCase):
    def test_by_as_it_came_and_where_none_came(self):
        lodge, page = Lodge(6), Page("x")
        self.assertEqual(lodge.writes(who(0), "a/b", page), [("writes", 0, "a/b", page, None, (6, 0))])
        self.assertEqual(lodge.writes(who(1), "a", page, on="s4"), [("writes", 1, "a", page, "s4", (6, 1))])
        self.assertEqual(lodge.writes(("lodge", 8, 2), "a", page, on="w0", by=(9, 7)),
                         [("writes", 2, "a", page, "w0", (9, 7))])
        self.assertEqual(lodge.writes(("lodge", 8, 2), "a", page, by=(9, 7)), [("writes", 3, "a", page, None, (9, 7))])
        self.assertEqual(lodge.errands(), [(0, "write", "a/b", 0, (who(0),)), (1, "write", "a", 0, (who(1),)),
                                           (2, "write", "a", 0, (("lodge", 8, 2),)),
                                           (3, "write", "a", 0, (("lodge", 8, 2),))])
        self.assertEqual(type(lodge.writes(who(0), "a", page)[0][5]), tuple)
        self.assertRaises(TypeError, lodge.writes, who(0), "a", page, "s0")

    def test_nothing_is_asked_of_the_shelf(self):
        lodge = waited_for("")
        lodge.came(0, whole(rule=Rule(keep=9)))
        before = lodge.copies()
        self.assertEqual([deed[0] for deed in lodge.writes(who(1), "a", Page("x"), on="s5")], ["writes"])
        self.assertEqual((lodge.copies(), lodge.floors()), (before, []))

    def test_the_answer_is_told_as_it_is(self):
        for answer, floors in [(Answer("written", count=5, age=3, ground=[(1, 2, 3)]), [("path", "a", 5)]),
                               (Answer("changed", mark="s1", count=5), []), (Answer("changed", count=5), []),
                               (Answer("silent"), [])]:
            lodge = Lodge(0)
            lodge.writes(who(1), "a", Page("x"))
            lodge.wait(2)
            deeds = lodge.came(0, answer)
            self.assertEqual([deed[:2] for deed in deeds], [("told", who(1))])
            self.assertEqual(deeds[0][2].told(), answer.told())
            self.assertEqual((lodge.errands(), lodge.floors(), lodge.copies()), ([], floors, []))

    def test_the_floor_ahead_of_it(self):
        lodge = waited_for("", path="a")
        lodge.came(0, whole(count=3, rule=Rule(keep=9)))
        lodge.asked(who(0), Ask("b"))
        lodge.came(1, whole(count=3))
        lodge.writes(who(1), "a", Page("x"))
        lodge.came(2, Answer("written", count=4))
        self.assertEqual([copy[0] for copy in lodge.copies()], ["b"])
        self.assertEqual(plain(lodge.asked(who(2), Ask("a")))[0][3], 4)

    def test_what_it_alone_waits_for(self):
        lodge = Lodge(0)
        lodge.writes(who(1), "a", Page("x"))
        lodge.asked(who(2), Ask("a"))
        self.assertEqual([deed[1] for deed in lodge.came(0, Answer("written", count=1))], [who(1)])
        self.assertEqual(lodge.errands(), [(1, "ask", "a", 0, (who(2),))])


class Heard(unittest.TestCase):
    def test_whether_a_floor_rose(self):
        lodge = Lodge(0)
        for count, paths, tags, rose in [(3, ["a"], [], True), (3, ["a"], [], False), (2, ("a",), ("t",), True),
                                         (2, ["a"], ["t"], False), (3, ["a"], ["t"], True), (4, [], [], False)]:
            self.assertIs(lodge.heard(count, paths=paths, tags=tags), rose)
        self.assertEqual(lodge.floors(), [("path", "a", 3), ("tag", "t", 3)])
        lodge.floors().clear()
        self.assertEqual(lodge.floors(), [("path", "a", 3), ("tag", "t", 3)])
        self.assertRaises(TypeError, lodge.heard, 5, ["a"])

    def test_what_was_taken_back_is_not_served(self):
        for names in ({"paths": ["a"]}, {"tags": ["t"]}, {"paths": ["b"], "tags": ["x", "t"]}):
            lodge = waited_for("")
            lodge.came(0, whole(count=3, rule=Rule(keep=9), tags=["t"]))
            lodge.heard(3, **names)
            self.assertEqual(len(lodge.copies()), 1)
            lodge.heard(4, **names)
            self.assertEqual(lodge.copies(), [])
            self.assertEqual([deed[0] for deed in lodge.asked(who(1), Ask("a"))], ["asks"])

    def test_errands_stay_out(self):
        lodge = waited_for("")
        lodge.heard(4, paths=["a"])
        self.assertEqual(lodge.errands(), [(0, "ask", "a", 0, (who(0),))])


class Falls(unittest.TestCase):
    def test_errands_and_waiters_are_lost_and_the_rest_stays(self):
        lodge = waited_for("", lodge=Lodge(0, clock=4))
        lodge.came(0, whole(count=3, rule=Rule(keep=9)))
        lodge.heard(2, paths=["b"], tags=["t"])
        lodge.asked(who(1), Ask("c"))
        lodge.asked(who(2), Ask("c"))
        lodge.writes(who(3), "c", Page("x"))
        copies, floors = lodge.copies(), lodge.floors()
        lodge.fall()
        self.assertEqual((lodge.errands(), lodge.copies(), lodge.floors(), lodge.clock), ([], copies, floors, 4))
        for errand in (1, 2):
            self.assertEqual(lodge.came(errand, whole()), [])
            self.assertEqual(lodge.give_up(errand), [])
        self.assertEqual((lodge.copies(), lodge.floors()), (copies, floors))
        self.assertEqual(plain(lodge.asked(who(4), Ask("c"))), [("asks", 3, ("c", (), (), (), None, "firm"), 0)])
        self.assertEqual([deed[0] for deed in lodge.asked(who(5), Ask("a"))], ["told"])


if __name__ == "__main__":
    unittest.main()
