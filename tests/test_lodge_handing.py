"""Point 2 for shelves and lodges: what is handed in stays, what is told is the asker's own, numbers may be great."""

import unittest

from pagelodge.asks import Answer, Ask
from pagelodge.lodges import Lodge
from pagelodge.pages import Page
from pagelodge.settings import Rule
from tests.samples import FAR, GREATEST, plain, who


def seen(lodge):
    return (lodge.copies(), lodge.floors(), lodge.errands(), lodge.clock)


def filled():
    """A lodge with copies, floors, and errands that are out."""
    lodge = Lodge(3)
    for at, spans in enumerate([[(0, 2)], [(5, 6)]]):
        lodge.asked(who(at), Ask("a", spans=spans))
    for at, parts in enumerate([[(0, "xy")], [(5, "z")]]):
        lodge.came(at, Answer("part", mark="s0", size=9, parts=parts, count=4 - at, turns=["lang"], tags=["t"],
                              rule=Rule(keep=4, worn=9)))
    lodge.heard(2, paths=["a", "b"], tags=["t"])
    lodge.wait(5)
    lodge.asked(who(2), Ask("a", spans=[(0, 2)]))
    lodge.asked(who(3), Ask("a"))
    lodge.writes(who(4), "b", Page("x"))
    return lodge


class Handing(unittest.TestCase):
    def test_nothing_handed_in_is_changed(self):
        heads, spans, unless = {"lang": "x"}, [(0, 5)], ["s1"]
        ask, page = Ask("a", heads=heads, spans=spans, unless=unless), Page("text", tags=["t"], rule="keep 3")
        answer = Answer("part", mark="s0", size=9, parts=[(0, "abcde")], turns=["lang"], tags=["t"], count=3)
        before = (ask.told(), page.told(), answer.told(), answer.turns, answer.tags, answer.rule.spelled())
        someone = who(0)
        lodge = Lodge(0)
        number = lodge.asked(someone, ask)[0][1]
        lodge.asked(someone, ask)
        lodge.came(number, answer)
        lodge.asked(someone, ask)
        lodge.writes(someone, "a", page)
        lodge.reasons(ask)
        lodge.may_keep(ask, answer)
        lodge.fall()
        self.assertEqual((ask.told(), page.told(), answer.told(), answer.turns, answer.tags, answer.rule.spelled()),
                         before)
        self.assertEqual((heads, spans, unless, someone), ({"lang": "x"}, [(0, 5)], ["s1"], ("asker", 0)))

    def test_rows_as_lists_and_as_tuples(self):
        seen_by = []
        for kind in (list, tuple):
            lodge = filled()
            lodge.heard(9, paths=kind(["c", "a"]), tags=kind(["u"]))
            seen_by.append(seen(lodge))
        self.assertEqual(seen_by[0], seen_by[1])

    def test_what_is_changed_afterwards_changes_nothing(self):
        lodge = filled()
        paths, tags = ["c"], ["u"]
        lodge.heard(9, paths=paths, tags=tags)
        before = seen(lodge)
        paths.append("a")
        tags.append("t")
        self.assertEqual(seen(lodge), before)
        self.assertEqual(lodge.asked(who(0), Ask("a", spans=[(0, 1)], wish="kept"))[0][2].word, "part")

    def test_lists_that_are_told_are_new_ones(self):
        lodge = filled()
        before = seen(lodge)
        ask = Ask("a", heads={"lang": "q"})
        for call in (lodge.copies, lodge.floors, lodge.errands, lambda: lodge.reasons(ask)):
            first = call()
            self.assertIs(type(first), list)
            self.assertNotEqual(first, [])
            again = call()
            self.assertIsNot(first, again)
            first.clear()
            self.assertEqual(call(), again)
        self.assertEqual(seen(lodge), before)

    def test_what_a_lodge_did_is_the_askers_own(self):
        lodge = filled()
        for deeds in (lodge.asked(who(5), Ask("a")), lodge.asked(who(5), Ask("c")),
                      lodge.writes(who(6), "c", Page("x")),
                      lodge.came(3, Answer("gone", count=9)), lodge.give_up(2), lodge.give_up(2),
                      lodge.came(77, Answer("gone"))):
            self.assertIs(type(deeds), list)
            before = seen(lodge)
            deeds.append(("told", who(9), None))
            deeds.clear()
            self.assertEqual(seen(lodge), before)

    def test_tuples_are_tuples(self):
        lodge = filled()
        rows = lodge.copies() + lodge.floors() + lodge.errands() + lodge.reasons(Ask("a"))
        rows += [row for copy in lodge.copies() for row in (copy[1], copy[2], copy[5], copy[9], copy[10], *copy[5],
                                                            *copy[10])]
        rows += [row for errand in lodge.errands() for row in (errand[4], *errand[4])]
        self.assertEqual({type(row) for row in rows}, {tuple})


class Great(unittest.TestCase):
    def test_numbers_of_sixty_figures_and_more(self):
        lodge = Lodge(GREATEST, room=GREATEST, clock=-GREATEST)
        self.assertEqual(plain(lodge.asked(who(0), Ask("a"), least=GREATEST)),
                         [("asks", 0, ("a", (), (), (), None, "firm"), GREATEST)])
        lodge.wait(GREATEST)
        lodge.wait(GREATEST)
        answer = Answer("part", mark="s0", size=GREATEST, parts=[(FAR, "xyz")], age=GREATEST, count=GREATEST,
                        rule=Rule(keep=GREATEST, worn=GREATEST, alone=GREATEST))
        deeds = lodge.came(0, answer)
        # It lacks most of what was asked, so that is asked for.
        self.assertEqual(plain(deeds),
                         [("asks", 1, ("a", (), ((0, FAR), (FAR + 3, GREATEST)), (), "s0", "firm"), GREATEST)])
        self.assertEqual(lodge.copies()[0][7], 3 * GREATEST)
        self.assertEqual(lodge.copies()[0][10], ((GREATEST, 0, 2 * GREATEST),))
        self.assertEqual(lodge.reasons(Ask("a", spans=[(FAR, FAR + 2)])), [("over",)])
        lodge.asked(who(1), Ask("a", spans=[(FAR, FAR + 2)], wish=f"worn {GREATEST}"))
        self.assertEqual(lodge.errands(), [(1, "ask", "a", GREATEST, (who(0),)), (2, "ask", "a", GREATEST, (who(1),))])
        self.assertIs(lodge.heard(GREATEST + 1, paths=["a"]), True)
        self.assertEqual(lodge.copies(), [])


if __name__ == "__main__":
    unittest.main()
