"""Pages, asks and answers as texts: how they are shown, and read again."""

from pagelodge.asks import Ask
from pagelodge.errors import NoAsk, NoPage, NoRule, NoSpan, NoText, NoWish
from pagelodge.pages import Page
from pagelodge.spans import read_spans, show_spans
from pagelodge.words import FIGURES, is_made_of, is_mark, is_path

ANSWER_WORDS = ("gone", "same", "whole", "beyond", "part", "silent", "unkept", "written", "changed")
MOST_FIGURES_SHOWN = 100


def show_page(path, page):
    """The text that shows a page at a path."""
    rows = [f"page {path}"]
    rule = page.rule.spelled()
    if rule != "":
        rows.append(f"rule {rule}")
    if len(page.turns) > 0:
        rows.append("turns " + " ".join(page.turns))
    if len(page.tags) > 0:
        rows.append("tags " + " ".join(page.tags))
    if page.weak:
        rows.append("weak")
    rows.append("gone" if page.text is None else f"text {page.text}")
    forms = ["form " + ",".join(worths) + " " + formed for worths, formed in page.forms]
    return "\n".join(rows + forms)


def read_page(text):
    """The tuple of path and Page that a text shows; NoText where it shows none."""
    # What is read loosely is shown again: just the text that is shown by what was read is let pass.
    try:
        path, page = page_told(text.split("\n"))
    except (NoRule, NoPage):
        raise NoText(text) from None
    if not is_path(path) or show_page(path, page) != text:
        raise NoText(text)
    return (path, page)


def page_told(rows):
    """The tuple of path and Page that rows tell, those of other words and of other order passed over."""
    told = [row.partition(" ") for row in rows]
    last = {word: rest for word, blank, rest in told}
    page = Page(
        last.get("text"),
        rule=last.get("rule", ""),
        turns=names_told(last.get("turns")),
        forms=[form_told(rest) for word, blank, rest in told if word == "form"],
        tags=names_told(last.get("tags")),
        weak="weak" in last,
    )
    return (last.get("page"), page)


def names_told(text):
    """The names of a row, with blanks between them; none where there is no row."""
    if text is None:
        return []
    return text.split(" ")


def form_told(text):
    """The form that is told as its worths, a blank and its text."""
    worths, blank, formed = text.partition(" ")
    return (worths.split(","), formed)


def show_ask(ask):
    """The text that shows an ask."""
    told = [
        ("heads", ",".join([f"{name}={worth}" for name, worth in ask.heads])),
        ("spans", show_spans(ask.spans)),
        ("when", "" if ask.when is None else ask.when),
        ("unless", ",".join(ask.unless)),
        ("wish", ask.wish.spelled()),
    ]
    return ask.path + "".join([f" {word} {rest}" for word, rest in told if rest != ""])


def read_ask(text):
    """The Ask that a text shows; NoText where it shows none."""
    try:
        ask = ask_told(text)
    except (NoAsk, NoSpan, NoWish):
        raise NoText(text) from None
    if show_ask(ask) != text:
        raise NoText(text)
    return ask


def ask_told(text):
    """The Ask that a text tells, other words and another order passed over."""
    # A wish has blanks of its own, so it is parted from the rest first.
    ahead, blank, wish = text.partition(" wish ")
    path, blank, rest = ahead.partition(" ")
    pieces = rest.split(" ")
    told = {word: what for word, what in zip(pieces[::2], pieces[1::2])}
    return Ask(
        path,
        heads=heads_told(told.get("heads")),
        spans=read_spans(told.get("spans", "")),
        unless=told["unless"].split(",") if "unless" in told else [],
        when=told.get("when"),
        wish=wish,
    )


def heads_told(text):
    """The heads that are told as names, each with = and its worth; None where there are none."""
    if text is None:
        return None
    pairs = [piece.partition("=") for piece in text.split(",")]
    return {name: worth for name, sign, worth in pairs}


def show_answer(answer):
    """The text that shows an answer as it was told."""
    word, mark, size, parts, age, count, ground = answer
    shown_mark = "-" if mark is None else mark
    rows = [f"{word} {shown_mark} {size} age {age} count {count}"]
    if len(ground) > 0:
        rows.append("by " + " ".join([".".join([str(number) for number in link]) for link in ground]))
    return "\n".join(rows + [f"{start} {signs}" for start, signs in parts])


def read_answer(text):
    """The answer as it was told, a tuple, that a text shows; NoText where it shows none."""
    answer = answer_told(text.split("\n"))
    if answer is None or show_answer(answer) != text:
        raise NoText(text)
    return answer


def answer_told(rows):
    """The answer that rows tell, or None; other words in the places of those that are shown are passed over."""
    pieces = rows[0].split(" ")
    if len(pieces) != 7:
        return None
    word, shown_mark, size, ahead_of_age, age, ahead_of_count, count = pieces
    if word not in ANSWER_WORDS or not (shown_mark == "-" or is_mark(shown_mark)):
        return None
    has_ground = len(rows) > 1 and rows[1].startswith("by ")
    ground = ground_told(rows[1][3:]) if has_ground else ()
    parts = parts_told(rows[2:] if has_ground else rows[1:])
    if ground is None or parts is None or not are_numbers([size, age, count]):
        return None
    return (word, None if shown_mark == "-" else shown_mark, int(size), parts, int(age), int(count), ground)


def are_numbers(texts):
    """Whether all texts are figures, but that they may be as long as an answer's numbers."""
    return all([is_made_of(text, FIGURES, 1, MOST_FIGURES_SHOWN) for text in texts])


def ground_told(text):
    """The tuple of links that a row tells, or None."""
    links = [link.split(".") for link in text.split(" ")]
    if not all([len(link) == 3 and are_numbers(link) for link in links]):
        return None
    return tuple([(int(lodge), int(errand), int(ticks)) for lodge, errand, ticks in links])


def parts_told(rows):
    """The tuple of parts that rows tell, or None."""
    told = [row.partition(" ") for row in rows]
    if not all([are_numbers([start]) and signs != "" for start, blank, signs in told]):
        return None
    parts = tuple([(int(start), signs) for start, blank, signs in told])
    for (start, signs), (later, others) in zip(parts, parts[1:]):
        if start + len(signs) >= later:
            return None
    return parts
