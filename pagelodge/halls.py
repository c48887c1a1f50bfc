"""Halls: a source, the lodges below it, and the letters between them."""

from pagelodge.errors import NoDeed, NoHall
from pagelodge.lodges import Door, Lodge, OwnLodge
from pagelodge.source import Source
from pagelodge.words import is_whole

MOST_LODGES = 12
SOURCE = -1
KINDS = ("shared", "own", "door")


class Letter:
    """A letter that was sent; its cargo is what its word goes with, as a tuple."""

    def __init__(self, tick, word, sender, receiver, errand, cargo):
        self.tick = tick
        self.word = word
        self.sender = sender
        self.receiver = receiver
        self.errand = errand
        self.cargo = cargo
        self.has_come = False

    def told(self):
        """The letter as a tuple."""
        return (self.tick, self.word, self.sender, self.receiver, self.errand, self.cargo_told())

    def cargo_told(self):
        """What its word goes with, asks, pages and answers as they are told."""
        if self.word == "ask":
            ask, least = self.cargo
            return (ask.told(), least)
        if self.word == "write":
            path, page, on, by = self.cargo
            return (path, page.told(), on, by)
        if self.word == "answer":
            answer = self.cargo[0]
            return (answer.told(), answer.rule.spelled(), answer.turns, answer.tags)
        return self.cargo


class Hall:
    """A source and lodges in trees below it; ups tells for each the one above it, -1 for the source."""

    def __init__(self, ups, *, kinds=(), rooms=(), clocks=()):
        wrong = wrong_in_hall(ups, kinds, rooms, clocks)
        if wrong is not None:
            raise NoHall(wrong)
        self.tick = 0
        self.source = Source()
        self.ups = tuple(ups)
        self.lodges = lodges_told(len(ups), kinds, rooms, clocks)
        self.askings = []
        self.tellings = []
        self.sent = []
        self.calmed = 0
        self.latest = []
        self.deed_ticks = []

    def lodge_at(self, lodge):
        """The Lodge with this number; NoDeed where there is none."""
        if not is_place(lodge, self.lodges):
            raise NoDeed("lodge")
        return self.lodges[lodge]

    def ask(self, lodge, ask):
        """Somebody asks at a lodge; tells the asker's number."""
        place = self.lodge_at(lodge)
        asker = self.new_asker(lodge, ask.told())
        self.latest = self.carry_out(lodge, place.asked(("asker", asker), ask))
        return asker

    def write(self, lodge, path, page, *, on=None):
        """Somebody hands in a writing at a lodge; tells the asker's number."""
        place = self.lodge_at(lodge)
        asker = self.new_asker(lodge, (path, page.told(), on))
        self.latest = self.carry_out(lodge, place.writes(("asker", asker), path, page, on=on))
        return asker

    def new_asker(self, lodge, what):
        """Notes what somebody asked at a lodge; tells the asker's number."""
        self.askings.append((lodge, self.tick, what))
        return len(self.askings) - 1

    def carry_out(self, lodge, deeds):
        """Carries what a lodge did to those whom it concerns; tells the happenings."""
        return [self.carry_one_out(lodge, deed) for deed in deeds]

    def carry_one_out(self, lodge, deed):
        """Carries one thing that a lodge did to whom it concerns; tells the happening."""
        if deed[0] == "asks":
            return self.send("ask", lodge, self.ups[lodge], deed[1], deed[2:])
        if deed[0] == "writes":
            return self.send("write", lodge, self.ups[lodge], deed[1], deed[2:])
        who, answer = deed[1:]
        if who[0] == "asker":
            return self.tell(who[1], answer)
        return self.send("answer", lodge, who[1], who[2], (answer,))

    def tell(self, asker, answer):
        """Notes what an asker is told; tells the happening."""
        lodge, tick, what = self.askings[asker]
        self.tellings.append((asker, lodge, tick, self.tick, what, answer.told()))
        return ("told", asker)

    def send(self, word, sender, receiver, errand, cargo):
        """Sends a letter; tells the happening."""
        self.sent.append(Letter(self.tick, word, sender, receiver, errand, cargo))
        return ("sent", len(self.sent) - 1)

    def send_down(self, sender, cargo):
        """Sends a taking back to all lodges below this one; tells the happenings."""
        below = [lodge for lodge, up in enumerate(self.ups) if up == sender]
        return [self.send("back", sender, lodge, None, cargo) for lodge in below]

    def put(self, path, page, *, tell=False):
        """Puts a page at the source, with tell by letters to the topmost lodges; tells the count."""
        self.write_at_source(path, page, None, None)
        if tell:
            self.send_down(SOURCE, ((path,), (), self.source.count))
        return self.source.count

    def write_at_source(self, path, page, on, by):
        """The source's answer to a writing."""
        answer = self.source.write(path, page, on=on, by=by)
        self.note_ticks()
        return answer

    def note_ticks(self):
        """Notes the tick for what the source has done since."""
        while len(self.deed_ticks) < self.source.count:
            self.deed_ticks.append(self.tick)

    def take_back(self, *, paths=(), tags=()):
        """Takes back what paths and tags name, by letters to the topmost lodges; tells the count."""
        count = self.source.take_back(paths=paths, tags=tags)
        self.note_ticks()
        self.send_down(SOURCE, (tuple(paths), tuple(tags), count))
        return count

    def come(self, letter):
        """Lets a letter come; tells the happenings."""
        if not is_place(letter, self.sent):
            raise NoDeed("letter")
        coming = self.sent[letter]
        coming.has_come = True
        if coming.receiver == SOURCE:
            return [self.come_to_source(coming)]
        return self.come_to_lodge(coming)

    def come_to_source(self, coming):
        """Lets an ask or a writing come to the source, which answers with a letter; tells the happening."""
        if coming.word == "ask":
            answer = self.source.answer(coming.cargo[0])
        else:
            path, page, on, by = coming.cargo
            answer = self.write_at_source(path, page, on, by)
        return self.send("answer", SOURCE, coming.sender, coming.errand, (answer,))

    def come_to_lodge(self, coming):
        """Lets a letter come to a lodge; tells the happenings."""
        number = coming.receiver
        lodge = self.lodges[number]
        if coming.word == "back":
            paths, tags, count = coming.cargo
            lodge.heard(count, paths=paths, tags=tags)
            return self.send_down(number, coming.cargo)
        if coming.word == "answer":
            return self.carry_out(number, lodge.came(coming.errand, coming.cargo[0]))
        below = ("lodge", coming.sender, coming.errand)
        if coming.word == "ask":
            ask, least = coming.cargo
            return self.carry_out(number, lodge.asked(below, ask, least=least))
        path, page, on, by = coming.cargo
        return self.carry_out(number, lodge.writes(below, path, page, on=on, by=by))

    def give_up(self, lodge, errand):
        """An errand is given up at a lodge; tells the happenings."""
        place = self.lodge_at(lodge)
        if not place.is_out(errand):
            raise NoDeed("errand")
        return self.carry_out(lodge, place.give_up(errand))

    def wait(self, ticks):
        """Lets so many ticks pass."""
        if ticks < 0:
            raise NoDeed("ticks")
        self.tick += ticks
        for lodge in self.lodges:
            lodge.wait(ticks)

    def fall(self, lodge):
        """A lodge falls."""
        self.lodge_at(lodge).fall()

    def calm(self):
        """Lets each letter that never came come once, those too that are sent meanwhile; tells how many came."""
        came = 0
        while self.calmed < len(self.sent):
            if not self.sent[self.calmed].has_come:
                self.come(self.calmed)
                came += 1
            self.calmed += 1
        return came

    def happened(self):
        """The happenings of the asking or writing that was done last."""
        return list(self.latest)

    def letters(self):
        """The list of all letters, in the order in which they were sent."""
        return [letter.told() for letter in self.sent]

    def answers(self):
        """The list of all that askers were told, in the order told."""
        return list(self.tellings)

    def answer_to(self, asker):
        """The answer that an asker was told, None where it was told nothing yet; NoDeed where it isn't known."""
        if not is_place(asker, self.askings):
            raise NoDeed("asker")
        for telling in self.tellings:
            if telling[0] == asker:
                return telling[5]
        return None

    def book(self):
        """The source's book, each tuple with its tick ahead."""
        return [(tick, path, page) for tick, (path, page) in zip(self.deed_ticks, self.source.book())]

    def reasons(self, lodge, ask):
        """The reasons of a lodge."""
        return self.lodge_at(lodge).reasons(ask)

    def copies(self, lodge):
        """What the copies of a lodge tell."""
        return self.lodge_at(lodge).copies()

    def floors(self, lodge):
        """The floors of a lodge."""
        return self.lodge_at(lodge).floors()

    def errands(self, lodge):
        """The errands that are out at a lodge."""
        return self.lodge_at(lodge).errands()


def is_place(thing, row):
    """Whether a thing is a place in a row."""
    return is_whole(thing) and 0 <= thing < len(row)


def wrong_in_hall(ups, kinds, rooms, clocks):
    """The name of the first of these that makes no hall, or None."""
    lodges = len(ups)
    if lodges == 0 or lodges > MOST_LODGES or not all([is_up(up, at) for at, up in enumerate(ups)]):
        return "ups"
    if not do_for_each([is_kind(kind) for kind in kinds], lodges):
        return "kinds"
    if not do_for_each([is_room(room) for room in rooms], lodges):
        return "rooms"
    if not do_for_each([is_whole(clock) for clock in clocks], lodges):
        return "clocks"
    return None


def do_for_each(truths, lodges):
    """Whether there are no truths, or one for each lodge and all so."""
    return len(truths) == 0 or (len(truths) == lodges and all(truths))


def is_up(thing, at):
    """Whether a thing may be the number of the one above the lodge with this number."""
    return is_whole(thing) and SOURCE <= thing < at


def is_kind(thing):
    """Whether a thing is a kind of lodges."""
    # Only texts are compared: other things may not let themselves be.
    return isinstance(thing, str) and thing in KINDS


def is_room(thing):
    """Whether a thing is a room."""
    return thing is None or (is_whole(thing) and thing >= 0)


def lodges_told(lodges, kinds, rooms, clocks):
    """The list of so many lodges, all alike in what isn't told."""
    each_kind = kinds if len(kinds) > 0 else ["shared"] * lodges
    each_room = rooms if len(rooms) > 0 else [None] * lodges
    each_clock = clocks if len(clocks) > 0 else [0] * lodges
    return [lodge_told(*told) for told in zip(range(lodges), each_kind, each_room, each_clock)]


def lodge_told(number, kind, room, clock):
    """The Lodge of this kind."""
    if kind == "own":
        return OwnLodge(number, room=room, clock=clock)
    if kind == "door":
        return Door(number, room=room, clock=clock)
    return Lodge(number, room=room, clock=clock)
