"""Things that a desk keeps under names: tuples of a kind, the field of it, and the value."""

from turnpowers.books import Book
from turnpowers.commands import is_plain, plain_in
from turnpowers.errors import UnknownName, UnlikeFields
from turnpowers.fields import Field
from turnpowers.spaces import Space

# Of the words of a command that name things: what they want. NAME wants just any thing.
WANTED = {"FIELD": "field", "ONE": "turner", "SPACE": "space", "BOOK": "book", "WORD": "word"}


def thing_of(field, value, listed):
    """The thing that has the value; a list is of the listed kind."""
    if isinstance(value, Field):
        return "field", value, value
    if isinstance(value, Space):
        return "space", field, value
    if isinstance(value, Book):
        return "book", field, value
    return listed, field, value


def value_of(thing):
    """The value of a thing; a list is a new one."""
    _, _, value = thing
    return list(value) if isinstance(value, list) else value


def is_under(kept, value):
    """Whether any value is a name, or a label, under which something is kept."""
    return isinstance(value, str) and value in kept


def found_things(things, kinds, words):
    """The list of the things that the words of these kinds name, one behind another."""
    found = []
    for kind, word in zip(kinds, words):
        if is_plain(kind):
            continue
        wanted = found[-1][0] if kind == "OTHER" else WANTED.get(kind, None)
        if word not in things or wanted not in (None, things[word][0]):
            raise UnknownName(word)
        found.append(things[word])
    return found


def common_field(found):
    """The field of all of the things; None if there are none."""
    fields = [field for _, field, _ in found]
    if any([field != fields[0] for field in fields]):
        raise UnlikeFields()
    return fields[0] if len(fields) > 0 else None


def told_values(things, kinds, words):
    """What the words of these kinds tell, a list: the values of things, COUNTS and lists; ahead of it their field."""
    field = common_field(found_things(things, kinds, words))
    values = []
    for kind, word in zip(kinds, words):
        values.append(plain_in(kind, word) if is_plain(kind) else value_of(things[word]))
    return field, values
