"""Deeds: what a desk keeps behind each of them."""

from turnpowers.books import Book, word_of
from turnpowers.checks import check_one, check_some
from turnpowers.commands import DEEDS
from turnpowers.division import common_inner, common_outer, divided_in, joint
from turnpowers.errors import InvalidClaim, InvalidPosition, LabelTaken, NameTaken, NotNear, TooMany, UnknownLabel
from turnpowers.fields import Field
from turnpowers.maps import as_map
from turnpowers.mended import mended
from turnpowers.middles import least_middle
from turnpowers.mirrors import mirror
from turnpowers.moments import GONE, claim_told, state_of, with_claim, with_thing, without_claim, without_thing
from turnpowers.roots import roots, space_turner
from turnpowers.spaces import Space, join, meet
from turnpowers.things import found_things, thing_of, told_values
from turnpowers.turners import less, put, scaled, sum_of, told

MOST_NAMES = 12
MOST_LABELS = 12


def row_of(field, some):
    """Some elements, as a word is kept."""
    check_some(field, some)
    return some


def made_of_field(word, field, some):
    """What the word of a deed makes of some elements of a field."""
    match word:
        case "turner":
            return told(field, some)
        case "space":
            return Space(field, some)
        case _:
            return row_of(field, some)


def made_of_two(word, field, turner, other):
    """What the word of a deed makes of two turn sums."""
    match word:
        case "sum":
            return sum_of(field, turner, other)
        case "less":
            return less(field, turner, other)
        case "put":
            return put(field, turner, other)
        case "quotient":
            return divided_in(field, turner, other)[0]
        case "rest":
            return divided_in(field, turner, other)[1]
        case "inner":
            return common_inner(field, turner, other)
        case "outer":
            return common_outer(field, turner, other)
        case _:
            return joint(field, turner, other)


def made_of_one(word, field, turner):
    """What the word of a deed makes of a turn sum."""
    match word:
        case "map":
            return as_map(field, turner)
        case "mirror":
            return mirror(field, turner)
        case "middle":
            return least_middle(field, turner)
        case _:
            return roots(field, turner)


def mended_or_not(book, word):
    """The turn sum within reach of the word: NotNear if there is none."""
    found = mended(book, word)
    if found is None:
        raise NotNear()
    return found


def made(word, field, parts):
    """What the word of a deed makes of the parts that are told behind its NEW."""
    match word:
        case "field":
            return Field(*parts)
        case "turner" | "space" | "word":
            return made_of_field(word, *parts)
        case "book":
            return Book(*parts)
        case "scaled":
            return scaled(field, *parts)
        case "map" | "mirror" | "middle" | "roots":
            return made_of_one(word, field, *parts)
        case "rooted":
            return space_turner(*parts)
        case "meet":
            return meet(*parts)
        case "join":
            return join(*parts)
        case "wordof":
            return word_of(*parts)
        case "mended":
            return mended_or_not(*parts)
        case _:
            return made_of_two(word, field, *parts)


def with_made(moment, words):
    """The moment behind a deed that makes something under a new name."""
    word, name = words[0], words[1]
    if name in moment.things:
        raise NameTaken(name)
    field, parts = told_values(moment.things, DEEDS[word][1:], words[2:])
    listed = "word" if word in ("word", "wordof") else "turner"
    thing = thing_of(field, made(word, field, parts), listed)
    if len(moment.things) >= MOST_NAMES:
        raise TooMany("names", MOST_NAMES)
    return with_thing(moment, name, thing)


def with_more(moment, words):
    """The moment behind the deed that widens a space."""
    field, parts = told_values(moment.things, DEEDS["more"], words[1:])
    space, one = parts
    check_one(field, one)
    return with_thing(moment, words[1], thing_of(field, Space(field, space.steps() + [one]), "space"))


def with_change(moment, words):
    """The moment behind the deed that changes an element of a word."""
    field, parts = told_values(moment.things, DEEDS["change"], words[1:])
    row, position, one = parts
    if position >= len(row):
        raise InvalidPosition(position)
    check_one(field, one)
    row[position] = one
    return with_thing(moment, words[1], thing_of(field, row, "word"))


def with_noted(moment, words):
    """The moment behind the deed that notes a claim."""
    label, claimed = words[1], tuple(words[2:])
    if label in moment.claims:
        raise LabelTaken(label)
    claim = claim_told(moment.things, claimed)
    state = state_of(claim)
    if state == GONE:
        raise InvalidClaim(claim)
    if len(moment.claims) >= MOST_LABELS:
        raise TooMany("labels", MOST_LABELS)
    return with_claim(moment, label, claimed, state)


def after(moment, words):
    """The moment behind the deed that has these words."""
    match words[0]:
        case "claim":
            return with_noted(moment, words)
        case "forget":
            if words[1] not in moment.claims:
                raise UnknownLabel(words[1])
            return without_claim(moment, words[1])
        case "drop":
            found_things(moment.things, DEEDS["drop"], words[1:])
            return without_thing(moment, words[1])
        case "more":
            return with_more(moment, words)
        case "change":
            return with_change(moment, words)
        case _:
            return with_made(moment, words)
