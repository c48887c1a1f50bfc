"""What several tests need: odd things, an alphabet, a plain model of stretches and parts, drawn asks and pages."""

from pagelodge.asks import Ask
from pagelodge.pages import Page

GREATEST = 10 ** 60 - 1
FAR = 10 ** 59

PRINTABLE = [chr(code) for code in range(32, 127)]
# Signs that a check for letters or figures by Python's own notion of them would let pass.
ODD_SIGNS = ["\n", "\t", "\r", "\0", "\x7f", "\x85", "\xa0", "\xe9", "\xdf", "\xb2", "\xb5", "\u0131",
             "\u0663", "\u0966", "\u2028", "\u2044", "\uff10", "\uff41", "\uff0f", "\ud800", "\U0001d7d8"]
ALPHABET = PRINTABLE + ODD_SIGNS


class Stubborn:
    """An object that can neither be compared, counted, hashed, gone through nor shown."""

    def refuse(self, *rest):
        raise RuntimeError("looked into")

    __eq__ = __ne__ = __lt__ = __hash__ = __len__ = __iter__ = __getitem__ = refuse
    __contains__ = __bool__ = __str__ = __repr__ = refuse


def no_texts():
    """Things of many kinds, none of them a text."""
    return [None, True, False, 0, 1, -1, 10 ** 70, 1.5, float("nan"), 1j, b"", b"a", b"0", b"s0", bytearray(b"a"),
            [], ["a"], ["a", "b"], (), ("a",), ("s", "0"), {}, {"a": "b"}, {"a"}, frozenset("a"), range(3),
            object(), str, len, lambda: "a", iter("a"), Stubborn()]


def off_by_one(text):
    """The texts that one sign put in, exchanged or taken out makes of a text: ahead, amid and behind."""
    made = []
    for at in {0, len(text) // 2, len(text)}:
        made += [text[:at] + sign + text[at:] for sign in ALPHABET]
    for at in {0, len(text) // 2, len(text) - 1}:
        if 0 <= at < len(text):
            made += [text[:at] + sign + text[at + 1:] for sign in ALPHABET]
            made.append(text[:at] + text[at + 1:])
    return made


RULE_FIELDS = {"keep": 0, "worn": 0, "alone": 0, "anew": False, "own": False, "common": False, "never": False,
               "strict": False}
WISH_FIELDS = {"atmost": None, "left": 0, "worn": 0, "anew": False, "kept": False, "firm": False}


def kinds_and_fields(thing, names):
    """The fields of an object with these names, each with its kind, as True and 1 would be taken for alike."""
    return {name: (type(getattr(thing, name)), getattr(thing, name)) for name in names}


def rule_fields(rule):
    return kinds_and_fields(rule, RULE_FIELDS)


def wish_fields(wish):
    return kinds_and_fields(wish, WISH_FIELDS)


def expected_fields(untold, told):
    """What kinds_and_fields tells where just these fields are told."""
    return {name: (type(worth), worth) for name, worth in {**untold, **told}.items()}


# The model: a set of places for stretches, a dict of places and signs for parts.

def runs(places):
    """The places in groups that follow on each other."""
    found = []
    for place in sorted(places):
        if found and found[-1][-1] + 1 == place:
            found[-1].append(place)
        else:
            found.append([place])
    return found


def as_stretches(places):
    return [(run[0], run[-1] + 1) for run in runs(places)]


def as_parts(known):
    return [(run[0], "".join(known[place] for place in run)) for run in runs(known)]


def subsets(count):
    """All sets of places below count."""
    return [{place for place in range(count) if mask >> place & 1} for mask in range(2 ** count)]


def moved(pairs, by):
    """Stretches moved on by so many places."""
    return [(start + by, stop + by) for start, stop in pairs]


def moved_parts(parts, by):
    return [(start + by, signs) for start, signs in parts]


# Lodges.

def plain(deeds):
    """What a lodge did, with its answers and asks as they are told."""
    shown = []
    for deed in deeds:
        if deed[0] == "told":
            shown.append(deed[:2] + (deed[2].told(),))
        elif deed[0] == "asks":
            shown.append(deed[:2] + (deed[2].told(),) + deed[3:])
        else:
            shown.append(deed)
    return shown


def who(number):
    return ("asker", number)


def fetched(lodge, source, asks):
    """Lets a lodge ask a source for each of these at once, where it doesn't serve them; tells what it did then."""
    deeds = []
    for ask in asks:
        for deed in lodge.asked(who(99), ask):
            if deed[0] == "asks":
                deeds += lodge.came(deed[1], source.answer(deed[2]))
    return deeds


# What is drawn: few paths, heads and texts, so that they meet.

WISHES = ["", "", "", "anew", "atmost 2", "left 2", "worn 3", "kept", "firm", "worn 2, left 1", "atmost 4, firm"]
RULES = ["", "keep 3", "keep 2, worn 2", "keep 9, strict", "keep 1, worn 5, alone 4", "anew, keep 9", "keep 4, alone 6",
         "keep 5, own", "keep 5, common", "keep 5, never"]
TEXTS = ["Some text", "some text", "other", "", "A longer text, this one"]


def drawn_ask(chance):
    heads = {name: chance.choice("xy") for name in ("lang", "who") if chance.random() < 0.25}
    spans = chance.choice([[], [], [(0, 4)], [(2, 6), (None, 2)], [(3, None)], [(40, 50)]])
    return Ask(chance.choice("ab"), heads=heads, spans=spans, unless=chance.choice([[], [], ["s0", "w0"], ["s1"]]),
               when=chance.choice([None, None, None, "s0", "s1", "w0"]), wish=chance.choice(WISHES))


def drawn_page(chance):
    if chance.random() < 0.1:
        return Page(None, rule=chance.choice(RULES), tags=chance.choice([[], ["t"]]))
    turns = chance.choice([[], [], ["lang"], ["who", "lang"]])
    forms = [(["x"] * len(turns), chance.choice(TEXTS))] if turns and chance.random() < 0.6 else []
    return Page(chance.choice(TEXTS), rule=chance.choice(RULES), turns=turns, forms=forms,
                tags=chance.choice([[], [], ["t"], ["t", "u"]]), weak=chance.random() < 0.3)
