"""Commands of a desk: which strings are some by their words alone, and what their words tell."""

from turnpowers.counts import DIGITS, count_in, counts_in

LETTERS = "abcdefghijklmnopqrstuvwxyz"
MOST_SIGNS = 8
MOST_LISTED = 13
# How many digits a COUNT and an ELEMENT have at most.
COUNT_DIGITS = 2
ELEMENT_DIGITS = 3

# What stands behind the first word of each command, one kind for each word: those of names are NEW, LABEL, those of
# things, NAME for a thing of any kind, and OTHER for one of the kind of the thing ahead of it.
DEEDS = {
    "field": ("NEW", "COUNT", "ELEMENTS"),
    "turner": ("NEW", "FIELD", "ELEMENTS"),
    "space": ("NEW", "FIELD", "ELEMENTS"),
    "word": ("NEW", "FIELD", "ELEMENTS"),
    "book": ("NEW", "FIELD", "ELEMENTS", "COUNT"),
    "sum": ("NEW", "ONE", "OTHER"),
    "less": ("NEW", "ONE", "OTHER"),
    "put": ("NEW", "ONE", "OTHER"),
    "scaled": ("NEW", "ONE", "ELEMENT"),
    "quotient": ("NEW", "ONE", "OTHER"),
    "rest": ("NEW", "ONE", "OTHER"),
    "inner": ("NEW", "ONE", "OTHER"),
    "outer": ("NEW", "ONE", "OTHER"),
    "joint": ("NEW", "ONE", "OTHER"),
    "map": ("NEW", "ONE"),
    "mirror": ("NEW", "ONE"),
    "middle": ("NEW", "ONE"),
    "roots": ("NEW", "ONE"),
    "rooted": ("NEW", "SPACE"),
    "meet": ("NEW", "SPACE", "OTHER"),
    "join": ("NEW", "SPACE", "OTHER"),
    "wordof": ("NEW", "BOOK", "ONE"),
    "mended": ("NEW", "BOOK", "WORD"),
    "more": ("SPACE", "ELEMENT"),
    "change": ("WORD", "COUNT", "ELEMENT"),
    "drop": ("NAME",),
    "forget": ("LABEL",),
}

# What stands behind the word of a claim, which stands behind `claim LABEL`; this is a deed, too.
CLAIMS = {
    "inner": ("ONE", "OTHER"),
    "notinner": ("ONE", "OTHER"),
    "full": ("ONE",),
    "notfull": ("ONE",),
    "whole": ("ONE",),
    "apart": ("ONE",),
    "like": ("FIELD", "ELEMENT", "ELEMENT"),
    "unlike": ("FIELD", "ELEMENT", "ELEMENT"),
    "near": ("BOOK", "WORD"),
    "far": ("BOOK", "WORD"),
    "free": ("FIELD", "ELEMENTS"),
    "tied": ("FIELD", "ELEMENTS"),
}

OTHERS = {
    "undo": (),
    "redo": (),
    "state": ("LABEL",),
    "states": (),
    "claimed": ("LABEL",),
    "names": (),
    "show": ("NAME",),
    "times": ("FIELD", "ELEMENT", "ELEMENT"),
    "norm": ("FIELD", "ELEMENT"),
    "trace": ("FIELD", "ELEMENT"),
    "degree": ("ONE",),
    "worth": ("ONE", "ELEMENT"),
    "rank": ("ONE",),
    "inners": ("ONE",),
    "full": ("ONE",),
    "whole": ("ONE",),
    "dimension": ("SPACE",),
    "has": ("SPACE", "ELEMENT"),
    "within": ("SPACE", "OTHER"),
    "reach": ("BOOK",),
    "ranks": ("BOOK",),
    "off": ("BOOK", "WORD", "OTHER"),
    "told": ("BOOK", "WORD"),
    "same": ("NAME", "OTHER"),
}


def is_name(value):
    """Whether any value is a name."""
    if not isinstance(value, str) or not 1 <= len(value) <= MOST_SIGNS or value[0] not in LETTERS:
        return False
    return all([sign in LETTERS or sign in DIGITS for sign in value])


def listed_in(word):
    """The list that ELEMENTS tell; None unless the word tells one."""
    if word == "-":
        return []
    parts = word.split(",")
    return counts_in(parts, ELEMENT_DIGITS) if len(parts) <= MOST_LISTED else None


def plain_in(kind, word):
    """What a word of one of the kinds that are no names tells; None unless it tells such."""
    match kind:
        case "COUNT":
            return count_in(word, COUNT_DIGITS)
        case "ELEMENT":
            return count_in(word, ELEMENT_DIGITS)
        case _:
            return listed_in(word)


def is_plain(kind):
    """Whether words of this kind are no names."""
    return kind in ("COUNT", "ELEMENT", "ELEMENTS")


def is_told(kind, word):
    """Whether a word is one of this kind."""
    return plain_in(kind, word) is not None if is_plain(kind) else is_name(word)


def are_told(kinds, words):
    """Whether words are of these kinds, one for each."""
    return len(kinds) == len(words) and all([is_told(kind, word) for kind, word in zip(kinds, words)])


def is_noting(words):
    """Whether the words of a command note a claim."""
    if len(words) < 3 or words[0] != "claim" or words[2] not in CLAIMS:
        return False
    return is_name(words[1]) and are_told(CLAIMS[words[2]], words[3:])


def is_deed(value):
    """Whether any value is a command of the first table."""
    if not isinstance(value, str):
        return False
    words = value.split(" ")
    return is_noting(words) or (words[0] in DEEDS and are_told(DEEDS[words[0]], words[1:]))


def is_command(value):
    """Whether any value is a string that is a command by its words alone."""
    if not isinstance(value, str):
        return False
    words = value.split(" ")
    return is_deed(value) or (words[0] in OTHERS and are_told(OTHERS[words[0]], words[1:]))
