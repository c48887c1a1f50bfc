"""Copies: what a lodge has from the answers to its errands."""

from pagelodge.asks import answered
from pagelodge.pages import worths_of
from pagelodge.spans import joined, lacking
from pagelodge.words import is_strong


class Copy:
    """What an answer told of a page for some heads; its parts may be more than those of the answer."""

    def __init__(self, path, worths, reply, *, mark, size, parts, lodge, errand, since):
        self.path = path
        self.turns = reply.turns
        self.worths = worths
        self.mark = mark
        self.size = size
        self.parts = list(parts)
        self.count = reply.count
        self.rule = reply.rule
        self.tags = reply.tags
        self.reply = reply
        self.lodge = lodge
        self.errand = errand
        self.since = since
        self.origin = self

    def grown(self, parts):
        """This copy with more parts put to its own: a new one, which stands for the same."""
        made = Copy(
            self.path,
            self.worths,
            self.reply,
            mark=self.mark,
            size=self.size,
            parts=joined(self.parts, parts),
            lodge=self.lodge,
            errand=self.errand,
            since=self.since,
        )
        made.origin = self.origin
        return made

    def age_at(self, clock):
        """Its age when the lodge's clock shows this."""
        return self.reply.age + clock - self.since

    def ground_at(self, clock):
        """The links that tell, lodge by lodge, whence it is and of which age."""
        return ((self.lodge, self.errand, clock - self.since),) + self.reply.ground

    def unlike_head(self, heads):
        """The first (name, its worth, the worth asked) by which it doesn't fit a row of heads, or None."""
        for name, worth, asked in zip(self.turns, self.worths, worths_of(self.turns, heads)):
            if worth != asked:
                return (name, worth, asked)
        return None

    def fits(self, heads):
        """Whether it is what a row of heads asks for."""
        return self.unlike_head(heads) is None

    def newer(self, other, clock):
        """Whether it is newer than another copy."""
        if self.count != other.count:
            return self.count > other.count
        return self.age_at(clock) < other.age_at(clock)

    def lacks(self, ask):
        """The stretches that it lacks of an ask."""
        if ask.word_for(self.mark, self.size) in ("gone", "same"):
            return []
        return lacking(ask.wanted(self.mark, self.size), self.parts)

    def answer(self, ask, clock):
        """The Answer to an ask of which it lacks nothing."""
        return answered(
            ask,
            self.mark,
            self.size,
            self.parts,
            age=self.age_at(clock),
            count=self.count,
            rule=self.rule,
            turns=self.turns,
            tags=self.tags,
            ground=self.ground_at(clock),
        )

    def told(self, clock):
        """The copy as a tuple."""
        return (
            self.path,
            self.turns,
            self.worths,
            self.mark,
            self.size,
            tuple(self.parts),
            self.count,
            self.age_at(clock),
            self.rule.spelled(),
            self.tags,
            self.ground_at(clock),
        )


def are_of_one_make(mark, other):
    """Whether two marks of a path tell that stretches of their texts may be put together."""
    return mark is not None and is_strong(mark) and mark == other


def copy_of(path, heads, answer, *, lodge=0, errand=0, since=0, held=None, others=()):
    """The Copy that an answer to an errand makes; held is the copy that was asked about."""
    # "same" tells nothing of the text: it is the one that is held.
    known = held if answer.word == "same" else answer
    asked_about = [] if held is None else [held]
    beside = [other for other in others if other.path == path]
    parts = known.parts
    for other in asked_about + beside:
        if are_of_one_make(known.mark, other.mark):
            parts = joined(parts, other.parts)
    return Copy(
        path,
        worths_of(answer.turns, heads),
        answer,
        mark=known.mark,
        size=known.size,
        parts=parts,
        lodge=lodge,
        errand=errand,
        since=since,
    )
