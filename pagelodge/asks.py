"""Asks, and the answers to them."""

from pagelodge.errors import NoAsk
from pagelodge.settings import Rule, read_wish
from pagelodge.spans import cut, is_span, stretches
from pagelodge.words import heads_row, is_mark, is_name, is_path, is_strong, is_worth

BEARS_PARTS = ("whole", "part")


class Ask:
    """What somebody asks for: a path, and what is told of it by name."""

    def __init__(self, path, *, heads=None, spans=(), unless=(), when=None, wish=""):
        named = {} if heads is None else heads
        wrong = wrong_in_ask(path, named, spans, unless, when)
        if wrong is not None:
            raise NoAsk(wrong)
        self.path = path
        self.heads = heads_row(named)
        self.spans = tuple(spans)
        self.unless = tuple(unless)
        self.when = when
        self.wish = read_wish(wish)

    def told(self):
        """The ask as a tuple."""
        return (self.path, self.heads, self.spans, self.unless, self.when, self.wish.spelled())

    def wants_whole(self, mark):
        """Whether the whole of a text with this mark is wanted."""
        if len(self.spans) == 0:
            return True
        # Texts with one weak mark may differ in capitals: their stretches can't be put together.
        return self.when is not None and (self.when != mark or not is_strong(self.when))

    def wanted(self, mark, size):
        """The stretches that are wanted of a text with this mark and size."""
        if self.wants_whole(mark):
            return stretches((), size)
        return stretches(self.spans, size)

    def word_for(self, mark, size):
        """The word that answers the ask out of a text with this mark and size; mark None: there is no text."""
        if mark is None:
            return "gone"
        if mark in self.unless:
            return "same"
        if self.wants_whole(mark):
            return "whole"
        if len(self.wanted(mark, size)) == 0:
            return "beyond"
        return "part"


def wrong_in_ask(path, heads, spans, unless, when):
    """The name of the first of these that makes no ask, or None."""
    if not is_path(path):
        return "path"
    if not all([is_name(name) and is_worth(worth) for name, worth in heads.items()]):
        return "heads"
    if not all([is_span(span) for span in spans]):
        return "spans"
    if not all([is_mark(mark) for mark in unless]):
        return "unless"
    if when is not None and not is_mark(when):
        return "when"
    return None


class Answer:
    """What is answered to an ask or a writing; rule None is a rule of which nothing is told."""

    def __init__(self, word, *, mark=None, size=0, parts=(), age=0, count=0, rule=None, turns=(), tags=(), ground=()):
        self.word = word
        self.mark = mark
        self.size = size
        self.parts = tuple([(start, signs) for start, signs in parts])
        self.age = age
        self.count = count
        self.rule = Rule() if rule is None else rule
        self.turns = tuple(turns)
        self.tags = tuple(tags)
        self.ground = tuple([tuple(link) for link in ground])

    def told(self):
        """The answer as askers are told it, a tuple."""
        return (self.word, self.mark, self.size, self.parts, self.age, self.count, self.ground)


def answered(ask, mark, size, parts, *, age=0, count=0, rule=None, turns=(), tags=(), ground=()):
    """The Answer to an ask out of a text with this mark and size, of which the parts lack nothing of the ask."""
    word = ask.word_for(mark, size)
    return Answer(
        word,
        mark=mark,
        size=0 if word == "gone" else size,
        parts=cut(parts, ask.wanted(mark, size)) if word in BEARS_PARTS else (),
        age=age,
        count=count,
        rule=rule,
        turns=turns,
        tags=tags,
        ground=ground,
    )
