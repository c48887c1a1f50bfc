"""Spans, the stretches that they tell in a text, and parts: what is known of a text."""

from pagelodge.errors import NoSpan
from pagelodge.words import is_figures, is_whole


def read_spans(text):
    """The list of spans that a text tells; NoSpan where it tells none."""
    if text == "":
        return []
    spans = []
    for at, piece in enumerate(text.split(",")):
        span = span_told(piece)
        if span is None:
            raise NoSpan(at)
        spans.append(span)
    return spans


def span_told(piece):
    """The span that one piece of a text tells, or None."""
    low, dots, high = piece.partition("..")
    if dots == "" or not is_end(low) or not is_end(high):
        return None
    start = end_told(low)
    stop = end_told(high)
    if not are_ends(start, stop):
        return None
    return (start, stop)


def is_end(text):
    """Whether a text may stand on one side of a span's dots."""
    return text == "" or is_figures(text)


def end_told(text):
    """The number that stands on one side of a span's dots, None where none does."""
    if text == "":
        return None
    return int(text)


def are_ends(start, stop):
    """Whether two ends, numbers from 0 on or None, make a span."""
    if start is None:
        return stop is not None and stop > 0
    return stop is None or start < stop


def is_span(thing):
    """Whether a thing is a span."""
    if not isinstance(thing, tuple) or len(thing) != 2:
        return False
    start, stop = thing
    return is_bound(start) and is_bound(stop) and are_ends(start, stop)


def is_bound(thing):
    """Whether a thing may be an end of a span: a whole number from 0 on, or None."""
    return thing is None or (is_whole(thing) and thing >= 0)


def show_spans(spans):
    """The text of spans."""
    return ",".join([f"{end_shown(start)}..{end_shown(stop)}" for start, stop in spans])


def end_shown(end):
    """What stands for an end of a span on its side of the dots."""
    if end is None:
        return ""
    return str(end)


def stretches(spans, size):
    """The stretches of spans in a text of this size; no spans tell every place."""
    if len(spans) == 0:
        return merged([(0, size)])
    return merged([within(span, size) for span in spans])


def within(span, size):
    """The pair (a, b) of a span in a text of this size; a is not less than b where the span lies beyond it."""
    start, stop = span
    if start is None:
        return (max(0, size - stop), size)
    if stop is None:
        return (start, size)
    return (start, min(stop, size))


def merged(pairs):
    """The stretches of all places that pairs (a, b) tell, those that tell none left out."""
    found = []
    for start, stop in sorted([pair for pair in pairs if pair[0] < pair[1]]):
        if found and start <= found[-1][1]:
            found[-1] = (found[-1][0], max(found[-1][1], stop))
        else:
            found.append((start, stop))
    return found


def parts_of(text):
    """The parts of a whole text."""
    if text == "":
        return []
    return [(0, text)]


def weight(parts):
    """How many signs parts tell."""
    return sum([len(signs) for start, signs in parts])


def told_by(parts):
    """The stretches of the places that parts tell."""
    return [(start, start + len(signs)) for start, signs in parts]


def untold_by(parts, size):
    """The stretches of the places that parts don't tell: all those before size, maybe some behind it."""
    found = []
    at = 0
    for start, stop in told_by(parts):
        if at < start:
            found.append((at, start))
        at = stop
    if at < size:
        found.append((at, size))
    return found


def meetings(ones, others):
    """Where two rows of stretches meet: (at, a, b) where the one at this place of the first row does."""
    found = []
    at = 0
    beside = 0
    while at < len(ones) and beside < len(others):
        start = max(ones[at][0], others[beside][0])
        stop = min(ones[at][1], others[beside][1])
        if start < stop:
            found.append((at, start, stop))
        # The one that ends first can't meet anything further on.
        if ones[at][1] <= others[beside][1]:
            at += 1
        else:
            beside += 1
    return found


def lacking(wanted, parts):
    """What stretches lack in parts, as stretches."""
    if len(wanted) == 0:
        return []
    untold = untold_by(parts, wanted[-1][1])
    return [(start, stop) for at, start, stop in meetings(wanted, untold)]


def cut(parts, wanted):
    """Parts cut to stretches."""
    found = []
    for at, start, stop in meetings(told_by(parts), wanted):
        first, signs = parts[at]
        found.append((start, signs[start - first:stop - first]))
    return found


def joined(ones, others):
    """Two rows of parts put together; where both tell a place, the sign of the first counts."""
    rest = cut(others, lacking(told_by(others), ones))
    found = []
    for start, signs in sorted([(start, signs) for start, signs in ones] + rest):
        if found and found[-1][0] + len(found[-1][1]) == start:
            found[-1] = (found[-1][0], found[-1][1] + signs)
        else:
            found.append((start, signs))
    return found
