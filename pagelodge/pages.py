"""Pages, as they are written at the source."""

from pagelodge.errors import NoPage
from pagelodge.settings import read_rule
from pagelodge.words import is_name, is_worth, worth_of


class Page:
    """A page: its text, None where it is gone, and what goes with it."""

    def __init__(self, text, *, rule="", turns=(), forms=(), tags=(), weak=False):
        self.rule = read_rule(rule)
        if not are_unlike_names(turns):
            raise NoPage("turns")
        if not are_forms(forms, text, turns):
            raise NoPage("forms")
        if not are_unlike_names(tags):
            raise NoPage("tags")
        self.text = text
        self.turns = tuple(turns)
        self.forms = tuple([(tuple(worths), formed) for worths, formed in forms])
        self.tags = tuple(sorted(tags))
        self.weak = weak

    def worths_for(self, heads):
        """The worths of its turns for a row of heads."""
        return worths_of(self.turns, heads)

    def text_for(self, heads):
        """Its text for a row of heads, None where it is gone."""
        asked = self.worths_for(heads)
        for worths, formed in self.forms:
            if worths == asked:
                return formed
        return self.text

    def told(self):
        """The page as a tuple."""
        return (self.text, self.rule.spelled(), self.turns, self.forms, self.tags, self.weak)


def worths_of(turns, heads):
    """The tuple of the worths that a row of heads tells for the names of turns."""
    return tuple([worth_of(heads, name) for name in turns])


def are_unlike_names(things):
    """Whether all things of a row are names, no two alike."""
    # Only names are counted as a set: other things may not let themselves be.
    return all([is_name(thing) for thing in things]) and len(set(things)) == len(things)


def are_forms(forms, text, turns):
    """Whether forms may go with a page's own text and its turns."""
    if len(forms) == 0:
        return True
    if text is None or len(turns) == 0:
        return False
    if not all([are_worths(worths, turns) for worths, formed in forms]):
        return False
    return len({tuple(worths) for worths, formed in forms}) == len(forms)


def are_worths(things, turns):
    """Whether a row has one worth for each name of turns."""
    return len(things) == len(turns) and all([is_worth(thing) for thing in things])
