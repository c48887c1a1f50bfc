"""Lodges: what they keep, whom they tell what, and what they ask of the one above."""

from pagelodge.asks import Answer, Ask
from pagelodge.copies import copy_of
from pagelodge.settings import Wish, lets, serves
from pagelodge.shelves import Shelf
from pagelodge.words import is_strong, worth_of


class Waiter:
    """Somebody who waits: who it is, its ask (None for a writing), and what the clock showed when it asked."""

    def __init__(self, who, ask, since):
        self.who = who
        self.ask_made = ask
        self.since = since


class Errand:
    """An errand that is out, for an ask or, where that is None, for a writing; held is the copy it asks about."""

    def __init__(self, number, path, ask, held, since, waiters):
        self.number = number
        self.path = path
        self.ask_made = ask
        self.held = held
        self.since = since
        self.waiters = list(waiters)
        # Who comes to wait later did not begin it, even as the first in the row.
        self.begun_for_first = len(waiters) > 0

    def told(self):
        """The errand as a tuple."""
        kind = "write" if self.ask_made is None else "ask"
        return (self.number, kind, self.path, self.since, tuple([waiter.who for waiter in self.waiters]))


class Lodge:
    """A shared lodge."""

    def __init__(self, number, *, room=None, clock=0):
        self.number = number
        self.clock = clock
        self.shelf = Shelf(room=room)
        self.begun = 0
        self.out = {}

    def wait(self, ticks):
        """Lets the clock show so many ticks more."""
        self.clock += ticks

    def may_keep(self, ask, answer):
        """Whether the lodge may keep what was answered to an ask."""
        rule = answer.rule
        if rule.never or rule.own:
            return False
        return rule.common or worth_of(ask.heads, "who") == ""

    def asked(self, who, ask, *, least=0):
        """Somebody asks; copies of a count below the least don't serve any more. Tells what the lodge does."""
        self.shelf.tell_floor(least, paths=(ask.path,))
        copy = self.newest_for(ask)
        if copy is not None and self.may_serve(copy, ask):
            return self.served(who, ask, copy)
        if ask.wish.kept:
            return [("told", who, Answer("unkept"))]
        waiter = Waiter(who, ask, self.clock)
        errand = self.errand_like(ask)
        if errand is None:
            return [self.begin(ask, [waiter])]
        errand.waiters.append(waiter)
        return []

    def newest_for(self, ask):
        """The newest copy of an ask's path that fits its heads, or None."""
        return self.shelf.newest(ask.path, ask.heads, self.clock)

    def may_serve(self, copy, ask, *, alone=False):
        """Whether a copy lacks nothing of an ask and may be served; with alone, where no answer comes."""
        return copy.lacks(ask) == [] and serves(copy.rule, ask.wish, copy.age_at(self.clock), alone=alone)

    def served(self, who, ask, copy):
        """Tells an asker what a copy answers, and begins an errand where the copy is worn."""
        self.shelf.use(copy)
        deeds = [("told", who, copy.answer(ask, self.clock))]
        is_worn = lets(copy.rule, ask.wish, copy.age_at(self.clock)) == "worn"
        if is_worn and not ask.wish.kept and self.errand_like(ask) is None:
            deeds.append(self.begin(ask, []))
        return deeds

    def errand_like(self, ask):
        """The errand that is out for an ask that is alike, or None."""
        for errand in self.out.values():
            if errand.ask_made is not None and are_alike(errand.ask_made, ask):
                return errand
        return None

    def begin(self, ask, waiters, *, floor=0):
        """Begins an errand for an ask, for which these wait; tells it to the one above."""
        held = held_for(ask, self.newest_for(ask))
        number = self.send_out(ask.path, ask, held, waiters)
        least = max(self.shelf.floor_of(ask.path, ()), floor)
        return ("asks", number, ask_above(ask, held), least)

    def send_out(self, path, ask, held, waiters):
        """Notes a new errand as out and tells its number."""
        number = self.begun
        self.begun += 1
        self.out[number] = Errand(number, path, ask, held, self.clock, waiters)
        return number

    def begin_for_first(self, waiters, *, floor=0):
        """Begins an errand for the first of those who wait, if there are any; all of them wait for it."""
        if len(waiters) == 0:
            return []
        return [self.begin(waiters[0].ask_made, waiters, floor=floor)]

    def writes(self, who, path, page, *, on=None, by=None):
        """Somebody hands in a writing. Tells what the lodge does."""
        number = self.send_out(path, None, None, [Waiter(who, None, self.clock)])
        writer = (self.number, number) if by is None else by
        return [("writes", number, path, page, on, writer)]

    def came(self, errand, answer):
        """An answer comes for an errand. Tells what the lodge does."""
        ended = self.out.pop(errand, None)
        if ended is None:
            return []
        if ended.ask_made is None:
            return self.end_writing(ended, answer)
        if answer.word == "silent":
            return self.end_without_answer(ended)
        floor = self.shelf.floor_of(ended.path, answer.tags)
        if answer.count < floor:
            return self.begin_for_first(ended.waiters, floor=floor)
        return self.end_with_copy(ended, answer)

    def end_writing(self, ended, answer):
        """Tells who waited for a writing its answer."""
        if answer.word == "written":
            self.shelf.tell_floor(answer.count, paths=(ended.path,))
        return [("told", waiter.who, answer) for waiter in ended.waiters]

    def end_with_copy(self, ended, answer):
        """Puts what was answered to the shelf and tells those for whom it does; the others go on waiting."""
        ask = ended.ask_made
        keep = self.may_keep(ask, answer)
        copy = copy_of(ask.path, ask.heads, answer, lodge=self.number, errand=ended.number, since=ended.since,
                       held=ended.held, others=self.shelf.copies())
        self.shelf.take(copy, ask.heads, self.clock, keep=keep)
        deeds = []
        left = []
        for at, waiter in enumerate(ended.waiters):
            is_its_own = at == 0 and ended.begun_for_first
            if copy.lacks(waiter.ask_made) == [] and (is_its_own or keep and self.does_for(copy, waiter)):
                deeds.append(("told", waiter.who, copy.answer(waiter.ask_made, self.clock)))
            else:
                left.append(waiter)
        return deeds + self.begin_for_first(left)

    def does_for(self, copy, waiter):
        """Whether a copy that was kept is young enough for one who waits."""
        age = copy.age_at(self.clock)
        return age <= self.clock - waiter.since or serves(copy.rule, waiter.ask_made.wish, age)

    def give_up(self, errand):
        """An errand is given up. Tells what the lodge does."""
        ended = self.out.pop(errand, None)
        if ended is None:
            return []
        return self.end_without_answer(ended)

    def end_without_answer(self, ended):
        """Tells those who waited what may be served where no answer comes."""
        return [("told", waiter.who, self.answer_alone(waiter.ask_made)) for waiter in ended.waiters]

    def answer_alone(self, ask):
        """The Answer to an ask (None: to a writing) where none comes from above."""
        copy = None if ask is None else self.newest_for(ask)
        if copy is None or not self.may_serve(copy, ask, alone=True):
            return Answer("silent")
        self.shelf.use(copy)
        return copy.answer(ask, self.clock)

    def heard(self, count, *, paths=(), tags=()):
        """The lodge hears of a taking back; tells whether a floor rose."""
        return self.shelf.tell_floor(count, paths=paths, tags=tags)

    def fall(self):
        """The lodge loses its errands and all who wait."""
        self.out = {}

    def reasons(self, ask):
        """For each copy of an ask's path the reason why it would or would not be served."""
        newest = self.newest_for(ask)
        return [self.reason(copy, ask, newest) for copy in self.shelf.copies() if copy.path == ask.path]

    def reason(self, copy, ask, newest):
        """The reason why a copy would or would not be served; newest is the newest one that fits, or None."""
        unlike = copy.unlike_head(ask.heads)
        if unlike is not None:
            return ("heads",) + unlike
        if copy != newest:
            return ("elder", newest.count)
        age = copy.age_at(self.clock)
        word = lets(copy.rule, ask.wish, age)
        if not serves(copy.rule, ask.wish, age):
            return (word,)
        lacks = copy.lacks(ask)
        if len(lacks) > 0:
            return ("lacks", lacks[0][0])
        return ("serves", word)

    def copies(self):
        """What each copy on the shelf tells, in the shelf's order."""
        return [copy.told(self.clock) for copy in self.shelf.copies()]

    def floors(self):
        """The floors of the shelf."""
        return self.shelf.floors()

    def is_out(self, errand):
        """Whether the errand with this number is out."""
        return errand in self.out

    def errands(self):
        """What each errand that is out tells, rising."""
        return [errand.told() for errand in self.out.values()]


class OwnLodge(Lodge):
    """A lodge of one asker alone, who may have there what is its own."""

    def may_keep(self, ask, answer):
        """Whether the lodge may keep what was answered to an ask."""
        return not answer.rule.never


class Door(Lodge):
    """A lodge that keeps nothing."""

    def may_keep(self, ask, answer):
        """Whether the lodge may keep what was answered to an ask."""
        return False


def are_alike(ask, other):
    """Whether one errand does for both of two asks."""
    return (ask.path, ask.heads, ask.spans, ask.when) == (other.path, other.heads, other.spans, other.when)


def held_for(ask, newest):
    """The copy about which an errand for an ask asks, out of the newest one (or None); or None."""
    if newest is None or newest.mark is None:
        return None
    if is_strong(newest.mark) or newest.lacks(ask) == []:
        return newest
    return None


def ask_above(ask, held):
    """The Ask that goes to the one above for an ask, where this copy is held (or None)."""
    wish = Wish(atmost=ask.wish.atmost, left=ask.wish.left, anew=ask.wish.anew, firm=True)
    spans = ask.spans
    unless = ()
    when = ask.when
    if held is not None:
        lacks = held.lacks(ask)
        if len(lacks) == 0:
            unless = (held.mark,)
        else:
            spans = lacks
            when = held.mark
    heads = {name: worth for name, worth in ask.heads}
    return Ask(ask.path, heads=heads, spans=spans, unless=unless, when=when, wish=wish.spelled())
