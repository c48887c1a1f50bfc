"""Whole numbers, names, worths, paths, figures, marks, and the row of heads."""

LETTERS = "abcdefghijklmnopqrstuvwxyz"
FIGURES = "0123456789"
WORTH_SIGNS = "abcdefghijklmnopqrstuvwxyz0123456789-"
LONGEST_NAME = 8
LONGEST_WORTH = 12
MOST_NAMES = 4
MOST_FIGURES = 60


def is_whole(thing):
    """Whether a thing is a whole number."""
    return isinstance(thing, int) and not isinstance(thing, bool)


def is_made_of(text, signs, least, most):
    """Whether a thing is a text of least to most signs, each of them one of the signs told."""
    if not isinstance(text, str):
        return False
    if len(text) < least or len(text) > most:
        return False
    return all([sign in signs for sign in text])


def is_name(text):
    """Whether a thing is a name."""
    return is_made_of(text, LETTERS, 1, LONGEST_NAME)


def is_worth(text):
    """Whether a thing is a worth."""
    return is_made_of(text, WORTH_SIGNS, 0, LONGEST_WORTH)


def is_path(text):
    """Whether a thing is a path."""
    if not isinstance(text, str):
        return False
    names = text.split("/")
    return len(names) <= MOST_NAMES and all([is_name(name) for name in names])


def is_figures(text):
    """Whether a thing is figures."""
    if not is_made_of(text, FIGURES, 1, MOST_FIGURES):
        return False
    return text == "0" or text[0] != "0"


def is_mark(text):
    """Whether a thing is a mark."""
    if not isinstance(text, str):
        return False
    return text[:1] in ("s", "w") and is_figures(text[1:])


def is_strong(mark):
    """Whether a mark is strong."""
    return mark[0] == "s"


def heads_row(heads):
    """The row of heads: what counts of a dict of names and worths."""
    return tuple(sorted([(name, worth) for name, worth in heads.items() if worth != ""]))


def worth_of(row, name):
    """The worth that a row of heads tells for a name."""
    for named, worth in row:
        if named == name:
            return worth
    return ""
