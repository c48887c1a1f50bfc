"""The desk: a hall that is told texts and answers with texts, and rows of texts that are run."""

from pagelodge.errors import NoDeed, NoLine, NoText
from pagelodge.halls import Hall
from pagelodge.texts import read_ask, read_page, show_answer
from pagelodge.words import is_figures, is_mark, is_name, is_path

MOST_RUNNINGS = 8


def behind(text, sign):
    """What stands behind a sign, which must stand first in a text."""
    if not text.startswith(sign):
        raise NoLine((), "form")
    return text[len(sign):]


def number_told(text):
    """The number that a text, which must be figures, tells."""
    if not is_figures(text):
        raise NoLine((), "form")
    return int(text)


def lodge_and_ask(rest):
    """The number of a lodge and the Ask that stand behind a word."""
    number, blank, shown = behind(rest, " ").partition(" ")
    lodge = number_told(number)
    if blank == "":
        raise NoLine((), "form")
    return (lodge, read_ask(shown))


def say_put(hall, rest):
    """Puts a page."""
    path, page = read_page(behind(rest, "\n"))
    return f"count {hall.put(path, page)}"


def say_tell(hall, rest):
    """Puts a page and sends letters."""
    path, page = read_page(behind(rest, "\n"))
    return f"count {hall.put(path, page, tell=True)}"


def say_ask(hall, rest):
    """Asks at a lodge."""
    lodge, ask = lodge_and_ask(rest)
    return f"asker {hall.ask(lodge, ask)}"


def say_write(hall, rest):
    """Hands in a writing at a lodge."""
    ahead, feed, shown = behind(rest, " ").partition("\n")
    number, *more = ahead.split(" ")
    lodge = number_told(number)
    if feed == "" or not (len(more) == 0 or (len(more) == 2 and more[0] == "on")):
        raise NoLine((), "form")
    on = more[1] if len(more) > 0 else None
    if on is not None and not is_mark(on):
        raise NoLine((), "text")
    path, page = read_page(shown)
    return f"asker {hall.write(lodge, path, page, on=on)}"


def say_back(hall, rest):
    """Takes back paths and tags."""
    pieces = behind(rest, " ").split(" ")
    words = pieces[::2]
    if len(pieces) not in (2, 4) or words not in (["paths"], ["tags"], ["paths", "tags"]):
        raise NoLine((), "form")
    told = {word: row.split(",") for word, row in zip(words, pieces[1::2])}
    paths = told.get("paths", [])
    tags = told.get("tags", [])
    if not all([is_path(path) for path in paths]) or not all([is_name(tag) for tag in tags]):
        raise NoLine((), "text")
    return f"count {hall.take_back(paths=paths, tags=tags)}"


def say_come(hall, rest):
    """Lets a letter come."""
    return happenings_shown(hall.come(number_told(behind(rest, " "))))


def say_give(hall, rest):
    """Gives an errand up."""
    number, blank, errand = behind(rest, " ").partition(" ")
    return happenings_shown(hall.give_up(number_told(number), number_told(errand)))


def say_wait(hall, rest):
    """Lets ticks pass."""
    hall.wait(number_told(behind(rest, " ")))
    return f"tick {hall.tick}"


def say_fall(hall, rest):
    """Lets a lodge fall."""
    hall.fall(number_told(behind(rest, " ")))
    return "fallen"


def say_calm(hall, rest):
    """Lets all letters come."""
    if rest != "":
        raise NoLine((), "form")
    return f"came {hall.calm()}"


def say_told(hall, rest):
    """Shows what an asker was told."""
    answer = hall.answer_to(number_told(behind(rest, " ")))
    if answer is None:
        return "waits"
    return show_answer(answer)


def say_why(hall, rest):
    """Shows the reasons of a lodge."""
    lodge, ask = lodge_and_ask(rest)
    reasons = hall.reasons(lodge, ask)
    if len(reasons) == 0:
        return "none"
    return "\n".join([reason_shown(reason) for reason in reasons])


def happenings_shown(happenings):
    """The text of happenings."""
    if len(happenings) == 0:
        return "none"
    return ", ".join([f"{word} {number}" for word, number in happenings])


def reason_shown(reason):
    """The text of a reason, a worth without signs shown as well."""
    return " ".join(["-" if thing == "" else str(thing) for thing in reason])


DEEDS = {
    "put": say_put,
    "tell": say_tell,
    "ask": say_ask,
    "write": say_write,
    "back": say_back,
    "come": say_come,
    "give": say_give,
    "wait": say_wait,
    "fall": say_fall,
    "calm": say_calm,
    "told": say_told,
    "why": say_why,
}


def done_in(hall, text):
    """Does what a text says in a hall, and answers."""
    word = text.replace("\n", " ").partition(" ")[0]
    if word not in DEEDS:
        raise NoLine((), "form")
    deed = DEEDS[word]
    return deed(hall, text[len(word):])


class Desk:
    """A desk with a hall, told as a hall is."""

    def __init__(self, ups, *, kinds=(), rooms=(), clocks=()):
        self.hall = Hall(ups, kinds=kinds, rooms=rooms, clocks=clocks)
        self.rows_kept = {}
        self.notes = []
        self.depth = 0

    def say(self, text):
        """Does what a text says, and answers; NoLine where it is refused."""
        if text.startswith("run "):
            return self.run_kept(behind(text, "run "))
        try:
            return done_in(self.hall, text)
        except NoText:
            raise NoLine((), "text") from None
        except NoDeed as refusal:
            raise NoLine((), refusal.why) from None

    def run_kept(self, name):
        """Runs the row that is kept by a name."""
        if " " in name:
            raise NoLine((), "form")
        # What is no name is never kept.
        if name not in self.rows_kept:
            raise NoLine((), "name")
        if self.depth >= MOST_RUNNINGS:
            raise NoLine((), "deep")
        answers = self.run(self.rows_kept[name])
        return f"ran {len(answers)}"

    def store(self, name, texts):
        """Keeps a row of texts by a name; NoLine where that is none."""
        if not is_name(name):
            raise NoLine((), "name")
        self.rows_kept[name] = tuple(texts)

    def run(self, texts):
        """Says texts one by one and tells their answers; where one is refused, NoLine tells its place."""
        depth = self.depth
        answers = []
        done = 0
        self.notes.append(("in", depth))
        self.depth = depth + 1
        try:
            for text in texts:
                answers.append(self.say(text))
                done += 1
        except NoLine as refusal:
            raise NoLine((done,) + refusal.at, refusal.why) from None
        finally:
            self.depth = depth
            self.notes.append(("out", depth, done))
        return answers

    def journal(self):
        """The list of all runnings that began and ended, in order."""
        return list(self.notes)
