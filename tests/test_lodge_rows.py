"""Points 26 to 31 over rows of drawn deeds, against a model written from the document's words."""

import random
import unittest

from pagelodge.asks import Answer, Ask
from pagelodge.copies import copy_of
from pagelodge.lodges import Door, Lodge, OwnLodge
from pagelodge.settings import lets, serves
from pagelodge.shelves import Shelf
from pagelodge.source import Source
from tests.samples import drawn_ask, drawn_page, plain, who

KINDS = {"shared": Lodge, "own": OwnLodge, "door": Door}


class Model:
    """A lodge by the words of points 25 to 31; only its shelf and its copies are the program's."""

    def __init__(self, kind, number, room, clock):
        self.kind = kind
        self.number = number
        self.clock = clock
        self.shelf = Shelf(room=room)
        self.begun = 0
        self.out = []

    def keeps(self, heads, rule):
        if self.kind == "door" or rule.never:
            return False
        return self.kind == "own" or (not rule.own and (rule.common or dict(heads).get("who", "") == ""))

    def like(self, ask):
        found = [errand for errand in self.out if errand["ask"] is not None
                 and errand["ask"].told()[:3] + errand["ask"].told()[4:5] == ask.told()[:3] + ask.told()[4:5]]
        assert len(found) < 2
        return found

    def newest(self, ask):
        return self.shelf.newest(ask.path, ask.heads, self.clock)

    def start(self, path, ask, waits, held=None):
        self.out.append({"number": self.begun, "path": path, "ask": ask, "waits": list(waits), "since": self.clock,
                         "held": held, "own": bool(waits)})
        self.begun += 1
        return self.begun - 1

    def begin(self, ask, waits, floor=0):
        held = self.newest(ask)
        if held is not None:
            whole = held.lacks(ask) == []
            if held.mark is None or (held.mark[0] == "w" and not whole):
                held = None
        wish = [f"atmost {ask.wish.atmost}"] * (ask.wish.atmost is not None)
        wish += [f"left {ask.wish.left}"] * (ask.wish.left > 0)
        more = {"spans": ask.spans, "when": ask.when, "unless": ()}
        if held is not None and whole:
            more["unless"] = (held.mark,)
        elif held is not None:
            more.update(spans=held.lacks(ask), when=held.mark)
        above = Ask(ask.path, heads=dict(ask.heads), wish=", ".join(wish + ["anew"] * ask.wish.anew + ["firm"]), **more)
        least = max(floor, self.shelf.floor_of(ask.path, []))
        return [("asks", self.start(ask.path, ask, waits, held), above, least)]

    def asked(self, someone, ask, least):
        self.shelf.tell_floor(least, paths=[ask.path])
        copy = self.newest(ask)
        if copy is not None and not copy.lacks(ask):
            word = lets(copy.rule, ask.wish, copy.age_at(self.clock))
            if word in ("fresh", "let", "worn"):
                self.shelf.use(copy)
                more = self.begin(ask, []) if word == "worn" and not ask.wish.kept and not self.like(ask) else []
                return [("told", someone, copy.answer(ask, self.clock))] + more
        if ask.wish.kept:
            return [("told", someone, Answer("unkept"))]
        if self.like(ask):
            self.like(ask)[0]["waits"].append((someone, ask, self.clock))
            return []
        return self.begin(ask, [(someone, ask, self.clock)])

    def writes(self, someone, path, page, on, by):
        number = self.start(path, None, [(someone, None, self.clock)])
        return [("writes", number, path, page, on, by or (self.number, number))]

    def ended(self, number):
        found = [errand for errand in self.out if errand["number"] == number]
        self.out = [errand for errand in self.out if errand["number"] != number]
        return found

    def alone(self, errand):
        told = []
        for someone, ask, since in errand["waits"]:
            answer = Answer("silent")
            copy = None if ask is None else self.newest(ask)
            if copy and not copy.lacks(ask) and serves(copy.rule, ask.wish, copy.age_at(self.clock), alone=True):
                answer = copy.answer(ask, self.clock)
                self.shelf.use(copy)
            told.append(("told", someone, answer))
        return told

    def give_up(self, number):
        return [deed for errand in self.ended(number) for deed in self.alone(errand)]

    def came(self, number, answer):
        return [deed for errand in self.ended(number) for deed in self.answered(errand, answer)]

    def answered(self, errand, answer):
        ask, waits = errand["ask"], errand["waits"]
        if ask is None:
            if answer.word == "written":
                self.shelf.tell_floor(answer.count, paths=[errand["path"]])
            return [("told", waits[0][0], answer)]
        if answer.word == "silent":
            return self.alone(errand)
        floor = self.shelf.floor_of(ask.path, answer.tags)
        if floor > answer.count:
            return self.begin(waits[0][1], waits, floor) if waits else []
        keep = self.keeps(ask.heads, answer.rule)
        copy = copy_of(ask.path, ask.heads, answer, lodge=self.number, errand=errand["number"], since=errand["since"],
                       held=errand["held"], others=self.shelf.copies())
        self.shelf.take(copy, ask.heads, self.clock, keep=keep)
        told, rest, age = [], [], copy.age_at(self.clock)
        for waiter in waits:
            someone, asked, since = waiter
            causes = [errand["own"] and waiter is waits[0], keep and since + age <= self.clock,
                      keep and serves(copy.rule, asked.wish, age)]
            if not copy.lacks(asked) and any(causes):
                told.append(("told", someone, copy.answer(asked, self.clock)))
            else:
                rest.append(waiter)
        return told + (self.begin(rest[0][1], rest) if rest else [])

    def errands(self):
        return [(errand["number"], "write" if errand["ask"] is None else "ask", errand["path"], errand["since"],
                 tuple(someone for someone, ask, since in errand["waits"])) for errand in self.out]


class Row:
    """One row of deeds, done at a lodge and at its model, with a source above that answers late."""

    def __init__(self, seed):
        self.chance = random.Random(seed)
        kind = self.chance.choice(["shared", "shared", "own", "door"])
        room, clock = self.chance.choice([None, None, 20, 3]), self.chance.randrange(-9, 9)
        number = self.chance.randrange(5)
        self.lodge = KINDS[kind](number, room=room, clock=clock)
        self.model = Model(kind, number, room, clock)
        self.source = Source()
        self.pending = []
        self.known = [(0, Answer("silent"))]

    def do(self):
        """Does one deed at both, and tells what each of them did."""
        chance, lodge, model = self.chance, self.lodge, self.model
        drawn = chance.random()
        someone = ("asker", chance.randrange(99))
        if drawn < 0.35:
            ask, least = drawn_ask(chance), chance.choice([0, 0, 0, self.source.count])
            return lodge.asked(someone, ask, least=least), model.asked(someone, ask, least)
        if drawn < 0.65 and self.pending:
            errand, answer = self.pending.pop(chance.randrange(len(self.pending)))
            self.known.append((errand, answer))
            return lodge.came(errand, answer), model.came(errand, answer)
        if drawn < 0.7:
            errand, answer = chance.choice(self.known)
            return lodge.came(errand, answer), model.came(errand, answer)
        if drawn < 0.75:
            errand = chance.randrange(model.begun + 1)
            if chance.random() < 0.3:
                return lodge.came(errand, Answer("silent")), model.came(errand, Answer("silent"))
            return lodge.give_up(errand), model.give_up(errand)
        if drawn < 0.8:
            page, by = drawn_page(chance), chance.choice([None, (8, self.source.count)])
            on = chance.choice([None, "s0"])
            path = chance.choice("ab")
            return lodge.writes(someone, path, page, on=on, by=by), model.writes(someone, path, page, on, by)
        if drawn < 0.86:
            self.source.write(chance.choice("ab"), drawn_page(chance))
        elif drawn < 0.91:
            names = {"paths": chance.choice([[], ["a"]]), "tags": chance.choice([[], ["t"], ["u"]])}
            count = self.source.take_back(**names)
            return lodge.heard(count, **names), model.shelf.tell_floor(count, **names)
        elif drawn < 0.99:
            ticks = chance.randrange(4)
            lodge.wait(ticks)
            model.clock += ticks
        else:
            lodge.fall()
            model.out = []
        return [], []

    def note(self, deeds):
        """The source answers what goes to it, as it is now."""
        for deed in deeds if isinstance(deeds, list) else []:
            if deed[0] == "asks":
                self.pending.append((deed[1], self.source.answer(deed[2])))
            elif deed[0] == "writes":
                self.pending.append((deed[1], self.source.write(deed[2], deed[3], on=deed[4], by=deed[5])))


class Rows(unittest.TestCase):
    def test_against_the_model(self):
        for seed in range(400):
            row = Row(seed)
            for deed in range(60):
                did, expected = row.do()
                if isinstance(did, list):
                    self.assertEqual(plain(did), plain(expected), (seed, deed))
                else:
                    self.assertIs(did, expected)
                row.note(did)
                self.assertEqual(row.lodge.errands(), row.model.errands(), (seed, deed))
                self.assertEqual(row.lodge.copies(), [copy.told(row.model.clock) for copy in row.model.shelf.copies()])
                self.assertEqual(row.lodge.floors(), row.model.shelf.floors())
                self.assertEqual(row.lodge.clock, row.model.clock)

    def test_what_goes_to_the_one_above(self):
        for seed in range(150):
            row = Row(seed)
            numbers = []
            for deed in range(60):
                did, expected = row.do()
                row.note(did)
                for told in did if isinstance(did, list) else []:
                    if told[0] != "told":
                        numbers.append(told[1])
            self.assertEqual(numbers, list(range(len(numbers))))

    def test_each_who_waits_is_told_just_once(self):
        for seed in range(150):
            chance = random.Random(seed)
            lodge, source, pending, asked, told = Lodge(0), Source(), [], 0, []
            for deed in range(60):
                lodge.wait(chance.randrange(2))
                if chance.random() < 0.3:
                    source.write(chance.choice("ab"), drawn_page(chance))
                if chance.random() < 0.1:
                    lodge.heard(source.take_back(paths=["a"]), paths=["a"])
                if chance.random() < 0.5 and pending:
                    number, answer = pending.pop(0)
                    deeds = lodge.came(number, answer)
                else:
                    deeds = lodge.asked(who(asked), drawn_ask(chance))
                    asked += 1
                told += [deed[1] for deed in deeds if deed[0] == "told"]
                pending += [(deed[1], source.answer(deed[2])) for deed in deeds if deed[0] == "asks"]
            while pending:
                number, answer = pending.pop(0)
                deeds = lodge.came(number, answer)
                told += [deed[1] for deed in deeds if deed[0] == "told"]
                pending += [(deed[1], source.answer(deed[2])) for deed in deeds if deed[0] == "asks"]
            self.assertEqual(sorted(told), [who(at) for at in range(asked)])
            self.assertEqual(lodge.errands(), [])


if __name__ == "__main__":
    unittest.main()
