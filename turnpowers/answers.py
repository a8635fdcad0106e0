"""Answers of a desk to the commands that are no deeds."""

from turnpowers.books import is_word, off
from turnpowers.commands import OTHERS
from turnpowers.elements import norm, times, trace
from turnpowers.errors import UnknownLabel
from turnpowers.maps import map_rank
from turnpowers.moments import told_states
from turnpowers.ranks import rank_row
from turnpowers.roots import is_full
from turnpowers.spaces import is_within
from turnpowers.things import found_things, told_values
from turnpowers.turners import degree, worth
from turnpowers.ways import inner_ones, is_whole


def parted(row, sign):
    """The numbers, or strings, of a list with a sign between; the sign for none."""
    return sign.join([str(one) for one in row]) if len(row) > 0 else "-"


def yes_or_no(flag):
    """The word for what is so, or is not."""
    return "yes" if flag else "no"


def shown(thing):
    """What a thing is made of."""
    kind, _, value = thing
    match kind:
        case "field":
            return " ".join([str(value.prime), parted(value.modulus(), ",")])
        case "space":
            return parted(value.steps(), ",")
        case "book":
            return " ".join([parted(value.points(), ","), str(value.many)])
        case _:
            return parted(value, ",")


def of_field(word, parts):
    """The answer about elements of a field."""
    match word:
        case "times":
            return str(times(*parts))
        case "norm":
            return str(norm(*parts))
        case _:
            return str(trace(*parts))


def of_turner(word, field, parts):
    """The answer about a turn sum."""
    match word:
        case "degree":
            return str(degree(field, *parts))
        case "worth":
            return str(worth(field, *parts))
        case "rank":
            return str(map_rank(field, *parts))
        case "inners":
            return parted(inner_ones(field, *parts), " ")
        case "full":
            return yes_or_no(is_full(field, *parts))
        case _:
            return yes_or_no(is_whole(field, *parts))


def of_space(word, parts):
    """The answer about a space."""
    space = parts[0]
    match word:
        case "dimension":
            return str(space.dimension)
        case "has":
            return yes_or_no(space.has(parts[1]))
        case _:
            return yes_or_no(is_within(*parts))


def of_book(word, parts):
    """The answer about a book."""
    book = parts[0]
    match word:
        case "reach":
            return str(book.reach)
        case "ranks":
            return parted(rank_row(book), " ")
        case "off":
            return str(off(*parts))
        case _:
            return yes_or_no(is_word(*parts))


def of_things(moment, words):
    """The answer about things whose kind is told by none of their words, or by just one."""
    word, kinds = words[0], OTHERS[words[0]]
    if word == "show":
        return shown(found_things(moment.things, kinds, words[1:])[0])
    if word == "same":
        one, other = found_things(moment.things, kinds, words[1:])
        return yes_or_no(one == other)
    field, parts = told_values(moment.things, kinds, words[1:])
    match kinds[0]:
        case "FIELD":
            return of_field(word, parts)
        case "ONE":
            return of_turner(word, field, parts)
        case "SPACE":
            return of_space(word, parts)
        case _:
            return of_book(word, parts)


def of_label(moment, words):
    """The answer about a label."""
    label = words[1]
    if label not in moment.claims:
        raise UnknownLabel(label)
    return moment.states[label] if words[0] == "state" else " ".join(moment.claims[label])


def answer(moment, words):
    """The answer to a command that is no deed, and takes none back."""
    match words[0]:
        case "names":
            return parted(sorted(moment.things), " ")
        case "states":
            return told_states(moment.states, list(moment.states))
        case "state" | "claimed":
            return of_label(moment, words)
        case _:
            return of_things(moment, words)
