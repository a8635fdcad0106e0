"""A desk to compare with: it keeps nothing but the lines of its deeds, and tells all from these."""

from tests.test_commands import DEED_ROWS, OTHER_ROWS
from turnpowers import (
    books, claims, division, elements, errors, fields, maps, mended, middles, mirrors, ranks, roots, spaces,
    turners, ways,
)

KIND_OF = {"FIELD": "field", "ONE": "turner", "SPACE": "space", "BOOK": "book", "WORD": "word"}


def row_of(command):
    """The words of the row of the tables that a command has; it is one."""
    words = command.split(" ")
    for row in DEED_ROWS + OTHER_ROWS:
        kinds = row.split(" ")
        fixed = [at for at, kind in enumerate(kinds) if not kind.isupper()]
        if len(kinds) == len(words) and all(kinds[at] == words[at] for at in fixed):
            return kinds
    raise AssertionError(command)


def listed(word):
    """The list that ELEMENTS tell."""
    return [] if word == "-" else [int(one) for one in word.split(",")]


def not_near(found):
    """The found turn sum; NotNear if there is none."""
    if found is None:
        raise errors.NotNear()
    return found


def some_of(field, row):
    """A word of these elements."""
    elements.rank(field, row)
    return row


MAKERS = {
    "field": ("field", lambda field, prime, row: fields.Field(prime, row)),
    "turner": ("turner", lambda field, of, row: turners.told(field, row)),
    "space": ("space", lambda field, of, row: spaces.Space(field, row)),
    "word": ("word", lambda field, of, row: some_of(field, row)),
    "book": ("book", lambda field, of, row, many: books.Book(field, row, many)),
    "sum": ("turner", turners.sum_of), "less": ("turner", turners.less), "put": ("turner", turners.put),
    "scaled": ("turner", turners.scaled), "quotient": ("turner", lambda *parts: division.divided_in(*parts)[0]),
    "rest": ("turner", lambda *parts: division.divided_in(*parts)[1]), "inner": ("turner", division.common_inner),
    "outer": ("turner", division.common_outer), "joint": ("turner", division.joint), "map": ("turner", maps.as_map),
    "mirror": ("turner", mirrors.mirror), "middle": ("turner", middles.least_middle),
    "roots": ("space", roots.roots), "rooted": ("turner", lambda field, space: roots.space_turner(space)),
    "meet": ("space", lambda field, one, other: spaces.meet(one, other)),
    "join": ("space", lambda field, one, other: spaces.join(one, other)),
    "wordof": ("word", lambda field, book, one: books.word_of(book, one)),
    "mended": ("turner", lambda field, book, word: not_near(mended.mended(book, word))),
}
ANSWERS = {
    "times": lambda field, of, one, other: elements.times(field, one, other),
    "norm": lambda field, of, one: elements.norm(field, one),
    "trace": lambda field, of, one: elements.trace(field, one),
    "degree": turners.degree, "worth": turners.worth, "rank": maps.map_rank, "inners": ways.inner_ones,
    "full": roots.is_full, "whole": ways.is_whole, "dimension": lambda field, space: space.dimension,
    "has": lambda field, space, one: space.has(one), "within": lambda field, *both: spaces.is_within(*both),
    "reach": lambda field, book: book.reach, "ranks": lambda field, book: ranks.rank_row(book),
    "off": lambda field, *parts: books.off(*parts), "told": lambda field, *parts: books.is_word(*parts),
}


def thing_row(thing):
    """The list that is told of a thing, with commas."""
    kind, _, value = thing
    if kind == "space":
        return value.steps()
    return value.points() if kind == "book" else value


def commas(row):
    """Numbers with commas between."""
    return ",".join(map(str, row)) or "-"


class PlainDesk:
    """Lines of deeds, and those that were taken back, the last one of them first to be done again."""

    def __init__(self):
        self.done, self.undone = [], []
        self.seen = {}

    def kept(self, lines):
        """Things and claims behind some deeds, reckoned once from the first one on."""
        if tuple(lines) not in self.seen:
            self.seen[tuple(lines)] = self.all_again(lines)
        things, noted = self.seen[tuple(lines)]
        return dict(things), dict(noted)

    def all_again(self, lines):
        """Things and claims behind some deeds, done one behind another."""
        things, noted = {}, {}
        for line in lines:
            words, kinds = line.split(" "), row_of(line)
            if kinds[0] == "claim":
                noted[words[1]] = words[2:]
            elif kinds[0] == "forget":
                del noted[words[1]]
            elif kinds[0] == "drop":
                del things[words[1]]
            else:
                things[words[1]] = self.made(things, kinds, words)
        return things, noted

    def found(self, things, kinds, words):
        """The field and the values that the words of a command tell, and its things."""
        ahead, found, values = None, [], []
        for kind, word in zip(kinds, words):
            if kind in ("COUNT", "ELEMENT", "ELEMENTS"):
                values.append(listed(word) if kind == "ELEMENTS" else int(word))
            elif kind in KIND_OF or kind in ("NAME", "OTHER"):
                wanted = ahead if kind == "OTHER" else KIND_OF.get(kind)
                if word not in things or wanted and things[word][0] != wanted:
                    raise errors.UnknownName(word)
                ahead = things[word][0]
                found.append(things[word])
                values.append(list(things[word][2]) if ahead in ("turner", "word") else things[word][2])
        return found, values

    def one_field(self, found):
        """The one field of all things."""
        if any(field != found[0][1] for _, field, _ in found):
            raise errors.UnlikeFields()
        return found[0][1] if found else None

    def made(self, things, kinds, words):
        """The thing that a deed makes, or makes of one."""
        found, values = self.found(things, kinds[1:], words[1:])
        field = self.one_field(found)
        if kinds[0] == "more":
            elements.is_element(field, values[1]) or self.fail(errors.InvalidElement(values[1]))
            return "space", field, spaces.Space(field, values[0].steps() + [values[1]])
        if kinds[0] == "change":
            row, at, one = values
            at < len(row) or self.fail(errors.InvalidPosition(at))
            elements.is_element(field, one) or self.fail(errors.InvalidElement(one))
            return "word", field, row[:at] + [one] + row[at + 1:]
        kind, maker = MAKERS[kinds[0]]
        value = maker(field, *values)
        return kind, value if kind == "field" else field, value

    def fail(self, error):
        """Raise the error."""
        raise error

    def claim(self, things, words):
        """The tuple that a claim's words tell now."""
        kinds = row_of("claim k " + " ".join(words))[3:]
        found, values = self.found(things, kinds, words[1:])
        field = self.one_field(found)
        return tuple([words[0]] + ([field] if kinds[0] == "ONE" else []) + values)

    def states(self, lines):
        """The states of all labels behind some deeds."""
        things, noted = self.kept(lines)
        found = {}
        for label, words in noted.items():
            try:
                claim = self.claim(things, words)
                found[label] = str(claims.is_true(claim)).lower() if claims.is_claim(claim) else "gone"
            except (errors.UnknownName, errors.UnlikeFields):
                found[label] = "gone"
        return found

    def told(self, states):
        """States as they are answered."""
        return ", ".join(f"{label} {states[label]}" for label in sorted(states)) or "-"

    def do(self, command):
        """The answer to what is surely a command, or its error."""
        words, kinds = command.split(" "), row_of(command)
        if " ".join(kinds) in DEED_ROWS:
            return self.deed(command, words, kinds)
        if command == "undo":
            self.done or self.fail(errors.NothingToUndo())
            self.undone.append(self.done.pop())
            return self.undone[-1]
        if command == "redo":
            self.undone or self.fail(errors.NothingToRedo())
            self.done.append(self.undone.pop())
            return self.done[-1]
        return self.answer(words, kinds)

    def deed(self, command, words, kinds):
        """What a deed answers, and does."""
        things, noted = self.kept(self.done)
        if "NEW" in kinds and words[1] in things:
            raise errors.NameTaken(words[1])
        if kinds[0] == "claim":
            if words[1] in noted:
                raise errors.LabelTaken(words[1])
            claim = self.claim(things, words[2:])
            claims.is_claim(claim) or self.fail(errors.InvalidClaim(claim))
            len(noted) < 12 or self.fail(errors.TooMany("labels", 12))
        elif kinds[0] == "forget":
            words[1] in noted or self.fail(errors.UnknownLabel(words[1]))
        elif kinds[0] == "drop":
            self.found(things, kinds, words)
        else:
            self.made(things, kinds, words)
            if "NEW" in kinds and len(things) >= 12:
                raise errors.TooMany("names", 12)
        len(self.done) < 300 or self.fail(errors.TooMany("deeds", 300))
        before, after = self.states(self.done), self.states(self.done + [command])
        self.done.append(command)
        self.undone = []
        return self.told({label: after[label] for label in after if after[label] != before.get(label)})

    def answer(self, words, kinds):
        """The answer to another command."""
        things, noted = self.kept(self.done)
        if words[0] == "names":
            return " ".join(sorted(things)) or "-"
        if words[0] == "states":
            return self.told(self.states(self.done))
        if words[0] in ("state", "claimed"):
            words[1] in noted or self.fail(errors.UnknownLabel(words[1]))
            return self.states(self.done)[words[1]] if words[0] == "state" else " ".join(noted[words[1]])
        found, values = self.found(things, kinds, words)
        if words[0] == "same":
            return "yes" if found[0] == found[1] else "no"
        if words[0] == "show":
            return self.shown(found[0])
        told = ANSWERS[words[0]](self.one_field(found), *values)
        if isinstance(told, bool):
            return "yes" if told else "no"
        return " ".join(map(str, told)) or "-" if isinstance(told, list) else str(told)

    def shown(self, thing):
        """What a thing is made of."""
        if thing[0] == "field":
            return f"{thing[2].prime} {commas(thing[2].modulus())}"
        return commas(thing_row(thing)) + (f" {thing[2].many}" if thing[0] == "book" else "")
