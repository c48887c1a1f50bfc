"""The refusals. Each class stands straight under PageError and bears the fields it is made with."""


class PageError(ValueError):
    """Any refusal."""


class NoSpan(PageError):
    """A text that tells no spans; at is the first of its pieces that tells none."""

    def __init__(self, at):
        self.at = at


class NoRule(PageError):
    """A text that tells no rule; at is the first of its pieces that is no word."""

    def __init__(self, at):
        self.at = at


class NoWish(PageError):
    """A text that tells no wish; at is the first of its pieces that is no word."""

    def __init__(self, at):
        self.at = at


class NoPage(PageError):
    """What makes no page; why names the part that is wrong."""

    def __init__(self, why):
        self.why = why


class NoAsk(PageError):
    """What makes no ask; why names the part that is wrong."""

    def __init__(self, why):
        self.why = why


class NoHall(PageError):
    """What makes no hall; why names the part that is wrong."""

    def __init__(self, why):
        self.why = why


class NoDeed(PageError):
    """A deed that can't be done in a hall; why names what there isn't."""

    def __init__(self, why):
        self.why = why


class NoText(PageError):
    """A text that shows no page, ask or answer."""

    def __init__(self, text):
        self.text = text


class NoLine(PageError):
    """A text that a desk refuses; at is its place within the runnings, why the reason."""

    def __init__(self, at, why):
        self.at = at
        self.why = why
