"""Rules and wishes: how they are read, spelled and put together, and what they say of a copy."""

from pagelodge.errors import NoRule, NoWish
from pagelodge.words import is_figures, is_name

RULE_NUMBERS = ("keep", "worn", "alone")
RULE_TRUTHS = ("anew", "own", "common", "never", "strict")
WISH_NUMBERS = ("atmost", "left", "worn")
WISH_TRUTHS = ("anew", "kept", "firm")
SERVED = ("fresh", "let", "worn")


class Setting:
    """What goes with a page or an ask and is told in words; by itself it has none."""

    def spelled(self):
        """The text of its words."""
        return ""

    def both(self, other):
        """The setting that lets no more than either."""
        return Setting()

    def __str__(self):
        return str(self.spelled())


class Rule(Setting):
    """What goes with a page: for how long, where and how it may be kept and served."""

    def __init__(self, *, keep=0, worn=0, alone=0, anew=False, own=False, common=False, never=False, strict=False):
        self.keep = keep
        self.worn = worn
        self.alone = alone
        self.anew = anew
        self.own = own
        self.common = common
        self.never = never
        self.strict = strict

    def spelled(self):
        """The text of its words."""
        numbers = [("keep", self.keep, 0), ("worn", self.worn, 0), ("alone", self.alone, 0)]
        truths = [("anew", self.anew), ("own", self.own), ("common", self.common), ("never", self.never),
                  ("strict", self.strict)]
        return in_words(numbers, truths)

    def both(self, other):
        """The rule that lets no more than either."""
        return Rule(
            keep=min(self.keep, other.keep),
            worn=min(self.worn, other.worn),
            alone=min(self.alone, other.alone),
            anew=self.anew or other.anew,
            own=self.own or other.own,
            common=self.common and other.common,
            never=self.never or other.never,
            strict=self.strict or other.strict,
        )


class Wish(Setting):
    """What goes with an ask: which copies the asker takes."""

    def __init__(self, *, atmost=None, left=0, worn=0, anew=False, kept=False, firm=False):
        self.atmost = atmost
        self.left = left
        self.worn = worn
        self.anew = anew
        self.kept = kept
        self.firm = firm

    def spelled(self):
        """The text of its words."""
        numbers = [("atmost", self.atmost, None), ("left", self.left, 0), ("worn", self.worn, 0)]
        truths = [("anew", self.anew), ("kept", self.kept), ("firm", self.firm)]
        return in_words(numbers, truths)

    def both(self, other):
        """The wish that lets no more than either."""
        return Wish(
            atmost=lesser(self.atmost, other.atmost),
            left=max(self.left, other.left),
            worn=min(self.worn, other.worn),
            anew=self.anew or other.anew,
            kept=self.kept or other.kept,
            firm=self.firm or other.firm,
        )


def lesser(one, other):
    """The lesser of two bounds, None being no bound."""
    if one is None:
        return other
    if other is None:
        return one
    return min(one, other)


def in_words(numbers, truths):
    """The words of numbers (name, number, what it is untold) that are told, then those of truths (name, truth)."""
    words = [f"{name} {number}" for name, number, untold in numbers if number != untold]
    return ", ".join(words + [name for name, truth in truths if truth])


def read_rule(text):
    """The Rule that a text tells; NoRule where it tells none."""
    words = words_told(text)
    wrong = first_wrong(words, RULE_NUMBERS, RULE_TRUTHS)
    if wrong is not None:
        raise NoRule(wrong)
    return Rule(
        keep=min(numbers_told(words, "keep"), default=0),
        worn=min(numbers_told(words, "worn"), default=0),
        alone=min(numbers_told(words, "alone"), default=0),
        anew=is_told(words, "anew"),
        own=is_told(words, "own"),
        common=is_told(words, "common"),
        never=is_told(words, "never"),
        strict=is_told(words, "strict"),
    )


def read_wish(text):
    """The Wish that a text tells; NoWish where it tells none."""
    words = words_told(text)
    wrong = first_wrong(words, WISH_NUMBERS, WISH_TRUTHS)
    if wrong is not None:
        raise NoWish(wrong)
    return Wish(
        atmost=min(numbers_told(words, "atmost"), default=None),
        left=max(numbers_told(words, "left"), default=0),
        worn=min(numbers_told(words, "worn"), default=0),
        anew=is_told(words, "anew"),
        kept=is_told(words, "kept"),
        firm=is_told(words, "firm"),
    )


def words_told(text):
    """For each piece of a text the word that it tells, or None; no pieces where it has blanks alone."""
    if text.strip(" ") == "":
        return []
    return [word_told(piece.strip(" ")) for piece in text.split(",")]


def word_told(piece):
    """The pair of name and number that a piece tells, the number None where it has no figures; or None."""
    name, blank, figures = piece.partition(" ")
    if not is_name(name):
        return None
    if blank == "":
        return (name, None)
    if not is_figures(figures):
        return None
    return (name, int(figures))


def first_wrong(words, numbers, truths):
    """The place of the first piece that is no word where these names tell numbers and truths, or None."""
    for at, word in enumerate(words):
        if word is None or not suits_its_name(word, numbers, truths):
            return at
    return None


def suits_its_name(word, numbers, truths):
    """Whether a word has figures where its name tells a number, and none where it tells a truth."""
    name, number = word
    if name in numbers:
        return number is not None
    return name not in truths or number is None


def numbers_told(words, name):
    """All numbers that words tell for a name."""
    return [number for named, number in words if named == name]


def is_told(words, name):
    """Whether words tell a truth."""
    return (name, None) in words


def lets(rule, wish, age):
    """The word that a rule and a wish say of a copy of this age."""
    if rule.anew or wish.anew:
        return "anew"
    if wish.atmost is not None and age > wish.atmost:
        return "old"
    if age + wish.left < rule.keep:
        return "fresh"
    if wish.left > 0:
        return "left"
    if rule.strict or wish.firm:
        return "firm"
    if age < rule.keep + wish.worn:
        return "let"
    if age < rule.keep + rule.worn:
        return "worn"
    return "over"


def serves(rule, wish, age, *, alone=False):
    """Whether a copy of this age may be served; with alone, whether it may be where no answer comes."""
    word = lets(rule, wish, age)
    if word in SERVED:
        return True
    return alone and word == "over" and age < rule.keep + rule.alone
