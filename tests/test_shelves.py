"""Points 23 and 24: shelves, their floors, the row of their copies, and how a copy is put to them."""

import itertools
import random
import unittest

from pagelodge.asks import Answer
from pagelodge.copies import copy_of
from pagelodge.shelves import Shelf
from pagelodge.spans import joined, weight
from tests.samples import GREATEST


def made(path="a", parts=((0, "x"),), mark="s0", heads=(), **more):
    """A copy; what is told by name goes with its answer."""
    word = "gone" if mark is None else "part"
    return copy_of(path, heads, Answer(word, mark=mark, size=0 if mark is None else 20, parts=parts, **more))


def told(copies):
    return [copy.told(0) for copy in copies]


class Floors(unittest.TestCase):
    def test_where_none_was_told(self):
        shelf = Shelf()
        self.assertEqual((shelf.floor_of("a", ()), shelf.floor_of("a/b", ["t", "u"]), shelf.floors()), (0, 0, []))

    def test_the_greatest_of_path_and_tags(self):
        shelf = Shelf()
        shelf.tell_floor(4, paths=["a", "b"], tags=["t"])
        shelf.tell_floor(7, tags=["u"])
        shelf.tell_floor(9, paths=["c"])
        for path, tags, floor in [("a", (), 4), ("b", (), 4), ("c", (), 9), ("t", (), 0), ("d", (), 0), ("d", ["t"], 4),
                                  ("d", ["u", "t"], 7), ("d", ["t", "u"], 7), ("a", ["u"], 7), ("c", ["u"], 9),
                                  ("d", ["a", "c"], 0), ("a", ["v"], 4), ("a", ("t", "v"), 4)]:
            self.assertEqual(shelf.floor_of(path, tags), floor)

    def test_lower_alike_and_higher(self):
        for name, row in [("paths", "path"), ("tags", "tag")]:
            shelf = Shelf()
            for count, rose, floor in [(0, False, None), (3, True, 3), (3, False, 3), (2, False, 3), (0, False, 3),
                                       (4, True, 4), (GREATEST, True, GREATEST), (GREATEST - 1, False, GREATEST)]:
                self.assertIs(shelf.tell_floor(count, **{name: ["x"]}), rose)
                self.assertEqual(shelf.floors(), [] if floor is None else [(row, "x", floor)])

    def test_whether_one_of_several_rose(self):
        for kind in (list, tuple):
            shelf = Shelf()
            self.assertIs(shelf.tell_floor(5, paths=kind(["a"]), tags=kind(["t"])), True)
            self.assertIs(shelf.tell_floor(5, paths=kind(["a"]), tags=kind(["t"])), False)
            self.assertIs(shelf.tell_floor(5, paths=kind(["b", "a"]), tags=kind(["t"])), True)
            self.assertIs(shelf.tell_floor(5, paths=kind(["a", "b"]), tags=kind(["t", "u"])), True)
            self.assertIs(shelf.tell_floor(5, paths=kind(["a", "b"]), tags=kind(["u", "t"])), False)
            self.assertIs(shelf.tell_floor(6), False)
            self.assertIs(shelf.tell_floor(6, paths=kind(["a"]), tags=kind(["t"])), True)
            self.assertEqual(shelf.floors(), [("path", "a", 6), ("path", "b", 5), ("tag", "t", 6), ("tag", "u", 5)])

    def test_told_sorted_paths_first(self):
        shelf = Shelf()
        shelf.tell_floor(2, paths=["z", "b", "a/b"], tags=["y", "a"])
        shelf.tell_floor(1, paths=["a", "z"], tags=["m"])
        shelf.tell_floor(0, paths=["nil"], tags=["nil"])
        self.assertEqual(shelf.floors(), [("path", "a", 1), ("path", "a/b", 2), ("path", "b", 2), ("path", "z", 2),
                                          ("tag", "a", 2), ("tag", "m", 1), ("tag", "y", 2)])
        self.assertEqual({type(row) for row in shelf.floors()}, {tuple})

    def test_told_lists_are_the_askers_own(self):
        shelf = Shelf()
        paths, tags = ["a"], ["t"]
        shelf.tell_floor(2, paths=paths, tags=tags)
        self.assertEqual((paths, tags), (["a"], ["t"]))
        paths.append("b")
        shelf.floors().clear()
        self.assertEqual(shelf.floors(), [("path", "a", 2), ("tag", "t", 2)])

    def test_copies_are_taken_out_as_soon_as_it_is_told(self):
        for floor, names, left in [(5, {"paths": ["a"]}, [1, 2, 3]), (6, {"paths": ["a"]}, [2, 3]),
                                   (6, {"tags": ["t"]}, [0, 1]), (5, {"tags": ["u"]}, [0, 1, 2, 3]),
                                   (9, {"paths": ["b"], "tags": ["u"]}, [0, 1]), (9, {"paths": ["a", "b"]}, []),
                                   (9, {"paths": ["c"], "tags": ["v"]}, [0, 1, 2, 3])]:
            shelf = Shelf()
            copies = [made("a", count=4, turns=["lang"]), made("a", count=5, turns=["lang"], heads=[("lang", "x")]),
                      made("b", count=5, turns=["lang"], tags=["t", "u"]),
                      made("b", count=5, turns=["lang"], heads=[("lang", "x")], tags=["t"])]
            for copy, heads in zip(copies, [(), [("lang", "x")], (), [("lang", "x")]]):
                shelf.take(copy, heads, 0)
            self.assertEqual(shelf.copies(), copies)
            shelf.tell_floor(floor, **names)
            self.assertEqual(shelf.copies(), [copies[at] for at in left])

    def test_by_the_copys_own_tags(self):
        shelf = Shelf()
        shelf.take(made(count=3, tags=["t", "u", "v"]), (), 0)
        shelf.tell_floor(3, tags=["t", "u"], paths=["a"])
        self.assertEqual(len(shelf.copies()), 1)
        shelf.tell_floor(4, tags=["v"])
        self.assertEqual(shelf.copies(), [])

    def test_handed_in_by_name(self):
        self.assertRaises(TypeError, Shelf, 5)
        self.assertRaises(TypeError, Shelf().tell_floor, 5, ["a"])
        self.assertRaises(TypeError, Shelf().take, made(), (), 0, True)


class Row(unittest.TestCase):
    def filled(self):
        """Three copies of one path, each for other heads."""
        shelf = Shelf()
        copies = [made(turns=["lang"], heads=[("lang", worth)], count=1) for worth in "xyz"]
        for copy, worth in zip(copies, "xyz"):
            shelf.take(copy, [("lang", worth)], 0)
        return shelf, copies

    def test_use_brings_a_copy_to_the_end(self):
        for row in itertools.product(range(3), repeat=3):
            shelf, copies = self.filled()
            order = [0, 1, 2]
            for at in row:
                shelf.use(copies[at])
                order = [other for other in order if other != at] + [at]
                self.assertEqual(shelf.copies(), [copies[other] for other in order])

    def test_told_lists_are_the_askers_own(self):
        shelf, copies = self.filled()
        shelf.copies().clear()
        shelf.copies().append(None)
        self.assertEqual(shelf.copies(), copies)

    def test_looking_for_the_newest_changes_nothing(self):
        shelf, copies = self.filled()
        for worth, copy in zip("xyz", copies):
            self.assertIs(shelf.newest("a", [("lang", worth)], 5), copy)
        self.assertEqual(shelf.copies(), copies)

    def test_none_fits(self):
        shelf, copies = self.filled()
        for path, heads in [("b", [("lang", "x")]), ("a", ()), ("a", (("lang", "w"),)), ("a/b", (("lang", "x"),))]:
            self.assertIsNone(shelf.newest(path, heads, 0))
        self.assertIsNone(Shelf().newest("a", (), 0))

    def test_a_grown_copy_is_used_by_what_was_put(self):
        shelf = Shelf()
        first, other = made(count=5), made("b")
        shelf.take(first, (), 0)
        shelf.take(other, (), 0)
        shelf.take(made(parts=[(7, "y")], count=4), (), 0)
        shelf.use(first)
        self.assertEqual([(copy.path, copy.parts) for copy in shelf.copies()],
                         [("b", [(0, "x")]), ("a", [(0, "x"), (7, "y")])])


def crowded(news, clock=0):
    """A shelf with copies that fit no heads, in this order, each given by its count and its age.

    A page whose turns change leaves copies of one path of which several fit."""
    shelf = Shelf()
    copies = []
    for at, (count, age) in enumerate(news):
        name = "abcdefgh"[at]
        copies.append(made(parts=[(at, "x")], mark=f"s{at}", turns=[name], count=count, age=age))
        # Put for heads that none of those ahead fits, so that they stay.
        shelf.take(copies[-1], [(other, "z") for other in "abcdefgh"[:at]], clock)
    return shelf, copies


class Newest(unittest.TestCase):
    def test_by_count_then_age_then_place(self):
        for news in itertools.product(itertools.product((1, 2), (0, 3)), repeat=3):
            shelf, copies = crowded(news)
            self.assertEqual(shelf.copies(), copies)
            best = min(range(3), key=lambda at: (-news[at][0], news[at][1], -at))
            for clock in (0, 8):
                self.assertIs(shelf.newest("a", (), clock), copies[best])
            shelf.use(copies[0])
            again = min(range(3), key=lambda at: (-news[at][0], news[at][1], -((at - 1) % 3)))
            self.assertIs(shelf.newest("a", (), 0), copies[again])

    def test_of_those_alone_that_fit(self):
        shelf, copies = crowded([(3, 0), (2, 0), (1, 0)])
        for heads, best in [((), 0), ([("a", "z")], 1), ([("a", "z"), ("b", "z")], 2), ([("b", "z")], 0)]:
            self.assertIs(shelf.newest("a", heads, 0), copies[best])
        self.assertIsNone(shelf.newest("a", [("a", "z"), ("b", "z"), ("c", "z")], 0))


class Put(unittest.TestCase):
    def test_without_a_newer_one_it_takes_the_place_of_those_that_fit(self):
        for count, age in [(6, 9), (5, 1), (5, 2)]:
            shelf = Shelf()
            old = made(count=5, age=2)
            rest = [made("b"), made("a/b")]
            for copy in [old] + rest:
                shelf.take(copy, (), 0)
            copy = made(count=count, age=age, parts=[(4, "y")])
            shelf.take(copy, (), 0)
            self.assertEqual(shelf.copies(), rest + [copy])
            self.assertEqual(copy.parts, [(4, "y")])

    def test_ages_are_those_at_the_clock(self):
        shelf = Shelf()
        old = copy_of("a", (), Answer("gone", age=0), since=0)
        young = copy_of("a", (), Answer("gone", age=3), since=8)
        shelf.take(young, (), 10)
        shelf.take(old, (), 10)
        self.assertEqual(shelf.copies(), [young])
        shelf = Shelf()
        shelf.take(old, (), 10)
        shelf.take(young, (), 10)
        self.assertEqual(shelf.copies(), [young])

    def test_all_that_fit_are_taken_out(self):
        shelf, copies = crowded([(1, 0), (2, 0), (1, 5), (2, 3)])
        copy = made(count=2, age=0)
        shelf.take(copy, [("b", "z")], 0)
        self.assertEqual(shelf.copies(), [copies[1], copy])

    def test_copies_of_other_heads_and_other_paths_stay(self):
        shelf = Shelf()
        rows = [[("lang", worth)] for worth in "xy"]
        others = [made(turns=["lang"], heads=rows[0]), made("b"), made("a/a")]
        for copy, heads in zip(others, (rows[0], (), ())):
            shelf.take(copy, heads, 0)
        for count in (3, 5, 7):
            copy = made(turns=["lang"], heads=rows[1], count=count)
            shelf.take(copy, rows[1], 0)
            self.assertEqual(shelf.copies(), others + [copy])
        shelf.take(made(turns=["lang"], heads=rows[1], count=9), rows[1], 0, keep=False)
        self.assertEqual(shelf.copies(), others)

    def test_a_newer_one_stays(self):
        for count, age in [(6, 9), (5, 1)]:
            for mark, keep in [("s7", True), ("s7", False), ("s0", False), (None, True), ("w0", True)]:
                shelf = Shelf()
                newer, other = made(count=count, age=age), made("b")
                shelf.take(newer, (), 0)
                shelf.take(other, (), 0)
                before = told(shelf.copies())
                shelf.take(made(mark=mark, parts=() if mark is None else [(0, "zz")], count=5, age=2), (), 0, keep=keep)
                self.assertEqual(told(shelf.copies()), before)

    def test_a_newer_one_of_the_same_strong_mark_has_the_parts_too(self):
        for kind in (list, tuple):
            shelf = Shelf()
            newer = copy_of("a", (), Answer("part", mark="s0", size=20, parts=kind([(2, "nn"), (8, "n")]), count=6,
                                            tags=["t"], ground=[(1, 2, 3)]), lodge=4, errand=5, since=-6)
            shelf.take(newer, (), 0)
            shelf.take(made("b"), (), 0)
            shelf.take(made(parts=kind([(0, "ooo"), (5, "o")]), count=5, tags=["u"]), (), 0)
            expected = list(newer.told(0))
            expected[5] = ((0, "oonn"), (5, "o"), (8, "n"))
            self.assertEqual(told(shelf.copies()), [tuple(expected), made("b").told(0)])

    def test_a_newer_one_with_a_weak_mark_stays_as_it_is(self):
        shelf = Shelf()
        shelf.take(made(mark="w0", count=6, parts=[(0, "n")]), (), 0)
        shelf.take(made(mark="w0", count=5, parts=[(5, "o")]), (), 0)
        self.assertEqual([copy.parts for copy in shelf.copies()], [[(0, "n")]])

    def test_each_newer_one_of_the_same_mark_has_the_parts(self):
        shelf = Shelf()
        names = "abcde"
        marks = ["s0", "s1", "s0", "s0", None]
        for at, count in enumerate([7, 7, 4, 6, 8]):
            mark = marks[at]
            copy = made(mark=mark, parts=() if mark is None else [(at, "x")], turns=[names[at]], count=count)
            shelf.take(copy, [(name, "z") for name in names[:at]], 0)
        shelf.take(made(parts=[(10, "new")], count=5), [("d", "z")], 0)
        parts = [copy.parts for copy in shelf.copies()]
        self.assertEqual(parts, [[(0, "x"), (10, "new")], [(1, "x")], [(2, "x")], [(3, "x")], []])
        shelf.take(made(parts=[(15, "y")], count=5), (), 0)
        parts = [copy.parts for copy in shelf.copies()]
        self.assertEqual(parts, [[(0, "x"), (10, "new"), (15, "y")], [(1, "x")], [(2, "x")], [(3, "x"), (15, "y")], []])

    def test_nothing_handed_in_is_changed(self):
        shelf = Shelf()
        newer, older, heads = made(count=6), made(parts=[(5, "o")], count=5), [("lang", "x")]
        before = told([newer, older])
        shelf.take(newer, heads, 0)
        shelf.take(older, heads, 0)
        self.assertEqual(told([newer, older]), before)
        self.assertEqual(heads, [("lang", "x")])
        heads.clear()
        self.assertEqual([copy.parts for copy in shelf.copies()], [[(0, "x"), (5, "o")]])

    def test_the_same_copy_again(self):
        shelf = Shelf()
        copy, other = made(), made("b")
        for each in (copy, other, copy):
            shelf.take(each, (), 0)
        self.assertEqual(shelf.copies(), [other, copy])

    def test_not_to_be_kept(self):
        shelf = Shelf()
        shelf.take(made(count=1), (), 0, keep=False)
        self.assertEqual(shelf.copies(), [])
        shelf.take(made(count=1), (), 0, keep=True)
        shelf.take(made("b", count=1), (), 0)
        shelf.take(made(count=1), (), 0, keep=False)
        self.assertEqual([copy.path for copy in shelf.copies()], ["b"])


class Room(unittest.TestCase):
    def paths(self, shelf):
        return [copy.path for copy in shelf.copies()]

    def put(self, shelf, path, signs, **more):
        shelf.take(made(path, parts=[(0, "x" * signs)] if signs else [], **more), (), 0)

    def test_none_has_no_bound(self):
        shelf = Shelf(room=None)
        for path in "abcdefgh":
            self.put(shelf, path, 20)
        self.assertEqual(self.paths(shelf), list("abcdefgh"))

    def test_the_first_ones_are_taken_out_until_the_rest_weighs_no_more(self):
        shelf = Shelf(room=10)
        for path, signs, row in [("a", 4, "a"), ("b", 3, "ab"), ("c", 3, "abc"), ("d", 1, "bcd"), ("e", 3, "bcde"),
                                 ("f", 4, "def"), ("g", 0, "defg"), ("h", 10, "gh"), ("i", 0, "ghi"), ("j", 1, "ij")]:
            self.put(shelf, path, signs)
            self.assertEqual(self.paths(shelf), list(row))

    def test_the_least_lately_used_goes_first(self):
        shelf = Shelf(room=3)
        for path in "abc":
            self.put(shelf, path, 1)
        shelf.use(shelf.newest("a", (), 0))
        self.put(shelf, "d", 2)
        self.assertEqual(self.paths(shelf), ["a", "d"])

    def test_heavier_than_the_room_alone(self):
        shelf = Shelf(room=5)
        for path in "ab":
            self.put(shelf, path, 2)
        self.put(shelf, "c", 6)
        self.assertEqual(self.paths(shelf), ["a", "b"])
        self.put(shelf, "a", 6)
        self.assertEqual(self.paths(shelf), ["b"])
        self.put(shelf, "a", 5)
        self.assertEqual(self.paths(shelf), ["a"])

    def test_a_room_of_nought(self):
        shelf = Shelf(room=0)
        self.put(shelf, "a", 1)
        self.put(shelf, "b", 0)
        shelf.take(made("c", mark=None, parts=()), (), 0)
        self.assertEqual(self.paths(shelf), ["b", "c"])
        self.put(shelf, "b", 1)
        self.assertEqual(self.paths(shelf), ["c"])

    def test_parts_that_come_to_a_newer_one_weigh_too(self):
        shelf = Shelf(room=5)
        for path in "ba":
            self.put(shelf, path, 2, count=5)
        shelf.take(made(parts=[(10, "yy")], count=4), (), 0)
        self.assertEqual([(copy.path, copy.parts) for copy in shelf.copies()], [("a", [(0, "xx"), (10, "yy")])])
        shelf.take(made(parts=[(15, "zz")], count=4), (), 0)
        self.assertEqual(shelf.copies(), [])

    def test_one_that_is_too_heavy_brings_its_parts_to_a_newer_one(self):
        shelf = Shelf(room=4)
        self.put(shelf, "a", 3, count=5)
        shelf.take(made(parts=[(0, "yyyyy")], count=4), (), 0)
        self.assertEqual(shelf.copies(), [])

    def test_a_room_of_sixty_figures(self):
        shelf = Shelf(room=GREATEST)
        self.put(shelf, "a", 20)
        self.assertEqual(self.paths(shelf), ["a"])


class Model:
    """Points 23 and 24 by their words, over plain rows of fields."""

    def __init__(self, room):
        self.room = room
        self.row = []
        self.told = []

    def floor(self, path, tags):
        names = [("path", path)] + [("tag", tag) for tag in tags]
        return max([0] + [count for name, count in self.told if name in names])

    def tell(self, count, paths, tags):
        before = [self.floor(path, ()) for path in paths] + [self.floor(None, [tag]) for tag in tags]
        self.told += [(("path", path), count) for path in paths] + [(("tag", tag), count) for tag in tags]
        after = [self.floor(path, ()) for path in paths] + [self.floor(None, [tag]) for tag in tags]
        self.row = [one for one in self.row if not one["count"] < self.floor(one["path"], one["tags"])]
        return before != after

    def fit(self, path, heads):
        return [one for one in self.row if one["path"] == path
                and all(dict(heads).get(turn, "") == worth for turn, worth in one["worths"])]

    def is_newer(self, one, other):
        return one["count"] > other["count"] or (one["count"] == other["count"] and one["birth"] > other["birth"])

    def newest(self, path, heads):
        fit = self.fit(path, heads)
        best = [one for one in fit if not any(self.is_newer(other, one) for other in fit)]
        return best[-1] if best else None

    def use(self, one):
        self.row = [other for other in self.row if other is not one] + [one]

    def take(self, new, heads, keep):
        fit = self.fit(new["path"], heads)
        newer = [one for one in fit if self.is_newer(one, new)]
        if newer and keep:
            for one in newer:
                if one["mark"] == new["mark"] and (new["mark"] or "w")[0] == "s":
                    one["parts"] = joined(one["parts"], new["parts"])
        if not newer:
            self.row = [one for one in self.row if not any(one is other for other in fit)]
            if keep and (self.room is None or weight(new["parts"]) <= self.room):
                self.row.append(new)
        while self.room is not None and sum(weight(one["parts"]) for one in self.row) > self.room:
            del self.row[0]


def drawn_heads(chance):
    return tuple((name, chance.choice("xy")) for name in ("lang", "who") if chance.random() < 0.5)


def drawn_pair(chance, clock):
    """A copy, the same for the model, and the heads for which it came."""
    path, heads, mark = chance.choice(["a", "b"]), drawn_heads(chance), chance.choice(["s0", "s0", "s1", "w0", None])
    start = chance.randrange(12)
    parts = [] if mark is None else [(start, "abcdefgh"[:chance.randrange(9)])]
    parts = [part for part in parts if part[1]]
    turns = chance.choice([[], ["lang"], ["who"], ["lang", "who"]])
    tags = chance.choice([[], ["t"], ["t", "u"]])
    age, waited, count = chance.randrange(4), chance.randrange(3), chance.randrange(1, 7)
    answer = Answer("gone" if mark is None else "part", mark=mark, size=20, parts=parts, turns=turns, tags=tags,
                    age=age,
                    count=count)
    fields = {"path": path, "worths": [(turn, dict(heads).get(turn, "")) for turn in turns], "mark": mark,
              "parts": parts, "tags": tags, "count": count, "birth": clock - waited - age}
    return copy_of(path, heads, answer, since=clock - waited), fields, heads


class Drawn(unittest.TestCase):
    def seen(self, copy):
        return (copy.path, list(zip(copy.turns, copy.worths)), copy.mark, copy.parts, list(copy.tags), copy.count)

    def expected(self, one):
        return (one["path"], one["worths"], one["mark"], one["parts"], one["tags"], one["count"])

    def test_rows_of_deeds_against_the_model(self):
        for seed in range(300):
            chance = random.Random(seed)
            room = chance.choice([None, 0, 3, 10, 25])
            shelf, model, clock = Shelf(room=room), Model(room), chance.randrange(-5, 5)
            for deed in range(40):
                clock += chance.randrange(2)
                self.do(chance, shelf, model, clock)
                self.assertEqual([self.seen(copy) for copy in shelf.copies()],
                                 [self.expected(one) for one in model.row], seed)

    def do(self, chance, shelf, model, clock):
        drawn = chance.random()
        if drawn < 0.15:
            count, path, tag = chance.randrange(7), chance.choice(["a", "b"]), chance.choice(["t", "u", "v"])
            paths, tags = [path] * chance.randrange(2), [tag] * chance.randrange(2)
            self.assertIs(shelf.tell_floor(count, paths=paths, tags=tags), model.tell(count, paths, tags))
        elif drawn < 0.4:
            path, heads = chance.choice(["a", "b"]), drawn_heads(chance)
            copy, one = shelf.newest(path, heads, clock), model.newest(path, heads)
            self.assertEqual(copy is None, one is None)
            if one is not None:
                self.assertEqual(self.seen(copy), self.expected(one))
                shelf.use(copy)
                model.use(one)
        else:
            copy, one, heads = drawn_pair(chance, clock)
            if not one["count"] < model.floor(one["path"], one["tags"]):
                keep = chance.random() < 0.8
                shelf.take(copy, heads, clock, keep=keep)
                model.take(one, heads, keep)


if __name__ == "__main__":
    unittest.main()
