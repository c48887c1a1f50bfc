"""The judge, who knows the source's book alone and tells whether an answer is right."""

from pagelodge.settings import serves
from pagelodge.source import Source
from pagelodge.words import is_strong

PAGE_WORDS = ("gone", "same", "whole", "beyond", "part")


def judge(book, asked, told, ask, answer):
    """The word for an answer that was told at a tick to an ask of another; "right" where nothing is wrong with it."""
    word, mark, size, parts, age, count, ground = answer
    if word not in PAGE_WORDS:
        return "right"
    if count < 0 or count > len(book):
        return "count"
    moment = latest_moment(book, count, told - age, told)
    if told < asked or moment is None:
        return "moment"
    right = source_after(book, count, ask.path).answer(ask)
    if mark != right.mark:
        return "mark"
    if size != right.size:
        return "size"
    if word != right.word:
        return "word"
    if not are_parts_right(mark, parts, right.parts):
        return "parts"
    if moment < asked and not serves(right.rule, ask.wish, asked - moment, alone=True):
        return "age"
    return "right"


def latest_moment(book, count, first, last):
    """The latest tick from first to last at which the source had done just so many deeds, or None."""
    start = first if count == 0 else max(first, book[count - 1][0])
    stop = last if count == len(book) else min(last, book[count][0])
    if start > stop:
        return None
    return stop


def source_after(book, count, path):
    """A source at which so many deeds of a book were done, those alone that count for a path."""
    source = Source()
    for tick, written, page in book[:count]:
        if written == path:
            source.write(path, page)
    return source


def are_parts_right(mark, parts, right):
    """Whether parts are the right ones, but for capitals where the mark is weak."""
    if mark is None or is_strong(mark):
        return list(parts) == list(right)
    return small_parts(parts) == small_parts(right)


def small_parts(parts):
    """Parts with each capital letter made small."""
    return [(start, signs.lower()) for start, signs in parts]
