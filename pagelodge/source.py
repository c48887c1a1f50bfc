"""The source: the pages that were written, their marks, and the book of all that was done."""

from pagelodge.asks import Answer, answered
from pagelodge.spans import parts_of


class Marks:
    """The numbers of all texts that were ever written at one path: as they are, and with their capitals made small."""

    def __init__(self):
        self.exact = {}
        self.small = {}

    def note(self, text):
        """Numbers a text, if it is a new one."""
        small = text.lower()
        self.exact.setdefault(text, len(self.exact))
        self.small.setdefault(small, len(self.small))

    def note_page(self, page):
        """Numbers the texts of a page."""
        if page.text is None:
            return
        self.note(page.text)
        for worths, formed in page.forms:
            self.note(formed)

    def mark_of(self, text, weak):
        """The weak or the strong mark of a text that was noted."""
        if weak:
            return f"w{self.small[text.lower()]}"
        return f"s{self.exact[text]}"


class Source:
    """The source of all pages."""

    def __init__(self):
        self.count = 0
        self.pages = {}
        self.marks = {}
        self.replies = {}
        self.deeds = []

    def write(self, path, page, *, on=None, by=None):
        """Puts a page at a path, if on lets it, and answers; a by that was handed in ahead is answered as then."""
        if by in self.replies:
            return self.replies[by]
        reply = self.reply_to_writing(path, page, on)
        if by is not None:
            self.replies[by] = reply
        return reply

    def reply_to_writing(self, path, page, on):
        """Puts a page at a path, if on lets it, and answers."""
        mark = self.mark_for(path, ())
        if on is not None and on != mark:
            return Answer("changed", mark=mark, count=self.count)
        self.put_page(path, page)
        self.note_deed(path, page)
        return Answer("written", count=self.count)

    def put_page(self, path, page):
        """Puts a page at a path and numbers its texts."""
        if path not in self.marks:
            self.marks[path] = Marks()
        self.marks[path].note_page(page)
        self.pages[path] = page

    def note_deed(self, path, page):
        """Counts what was done and notes it in the book."""
        self.count += 1
        self.deeds.append((path, page))

    def take_back(self, *, paths=(), tags=()):
        """Takes back what paths and tags name, which does nothing to the pages; tells the count behind it."""
        self.note_deed(None, None)
        return self.count

    def answer(self, ask):
        """The Answer to an ask out of the page that stands at its path."""
        page = self.page_at(ask.path)
        if page is None:
            return answered(ask, None, 0, (), count=self.count)
        text = page.text_for(ask.heads)
        known = "" if text is None else text
        return answered(
            ask,
            self.mark_for(ask.path, ask.heads),
            len(known),
            parts_of(known),
            count=self.count,
            rule=page.rule,
            turns=page.turns,
            tags=page.tags,
        )

    def mark_for(self, path, heads):
        """The mark of the page at a path for a row of heads, None where it has none."""
        page = self.page_at(path)
        text = None if page is None else page.text_for(heads)
        if text is None:
            return None
        return self.marks[path].mark_of(text, page.weak)

    def page_at(self, path):
        """The Page that stands at a path, or None."""
        return self.pages.get(path)

    def book(self):
        """The list of all that was done."""
        return list(self.deeds)
