"""Points 95 to 98: long runs of commands, drawn, compared with a desk that tells all from the lines of its deeds."""

import random
import unittest

from tests.helpers import alike
from tests.plain_desk import KIND_OF, PlainDesk
from tests.test_commands import DEED_ROWS, OTHER_ROWS
from turnpowers import errors
from turnpowers.desk import Desk

FAILURES = (errors.TurnError, errors.MissingError, errors.StateError, errors.LimitError)
NAMES = ["f", "g", "h", "t", "u", "v", "s", "b", "w", "x", "y", "z", "a", "c", "d", "e"]
LABELS = ["k", "l", "m", "t", "n", "o", "p", "q", "r", "a", "b", "c", "d", "i"]
AHEAD = ["field f 2 1,1,0,1", "turner t f 1,1,1", "turner u f 2,1", "book b f 1,2,4 1", "word w f 2,6,6",
         "space s f 2,4",
         "claim k near b w", "claim l inner t u", "turner v f 5,1,3"]
FIELDS = ["2 1,1,1", "2 1,1,0,1", "2 1,0,1,1", "3 1,0,1", "2 1,1,0,0,1", "2 1,0,1", "4 1,1,1", "3 2,1,1", "2 1,1,0,1"]


class Drawn:
    """Commands that are drawn, with names that mostly fit what is kept."""

    def __init__(self, seed):
        self.drawn = random.Random(seed)
        self.things, self.noted = {}, {}

    def name(self, wanted):
        """A name of something of this kind, or of anything, or just any."""
        fit = [name for name in self.things if wanted in (None, self.things[name][0])]
        return self.drawn.choice(fit if fit and self.drawn.random() < 0.93 else NAMES)

    def count(self, most):
        """A number up to this one, sometimes just any."""
        return self.drawn.randrange(most + 1) if self.drawn.random() < 0.95 else self.drawn.choice([9, 16, 99])

    def row(self, most):
        """ELEMENTS."""
        row = [self.count(3 if self.drawn.random() < 0.4 else 7) for _ in range(self.drawn.randrange(most + 1))]
        return ",".join(map(str, row)) or "-"

    def word(self, kind, row):
        """A word of this kind in a command of the row."""
        if kind in KIND_OF:
            return self.name(KIND_OF[kind])
        if kind == "NEW":
            free = [name for name in NAMES if name not in self.things]
            return self.drawn.choice(free if free and self.drawn.random() < 0.9 else NAMES)
        if kind == "LABEL":
            taken = list(self.noted)
            free = [label for label in LABELS if label not in taken] or LABELS
            fit = free if row[0] == "claim" else taken or LABELS
            return self.drawn.choice(fit if self.drawn.random() < 0.8 else LABELS)
        if kind in ("COUNT", "ELEMENT"):
            return str(self.count(3 if kind == "COUNT" else 7))
        if kind == "ELEMENTS":
            return self.row(self.drawn.choice([3, 3, 4, 13]))
        return kind if kind.islower() else self.name(None)

    def kinds(self, rows):
        """A row, mostly one for which there are things of all its kinds."""
        kept = {thing[0] for thing in self.things.values()}
        for _ in range(20):
            kinds = self.drawn.choice(rows).split(" ")
            if {KIND_OF[kind] for kind in kinds if kind in KIND_OF} <= kept and ("NAME" not in kinds or kept):
                break
        return kinds

    def command(self, rows):
        """A command of one of the rows."""
        kinds = self.kinds(rows)
        if kinds[0] == "field":
            return f"field {self.word('NEW', kinds)} {self.drawn.choice(FIELDS)}"
        if kinds[0] == "book" and self.drawn.random() < 0.7:
            points = self.drawn.choice(["1,2", "1,2,4", "2,1", "3,1,4", "3", "1,3", "4,2", "5,1", "1,4,2"])
            return f"book {self.word('NEW', kinds)} {self.name('field')} {points} {self.count(2)}"
        words = []
        for at, kind in enumerate(kinds):
            if kind == "OTHER":
                ahead = KIND_OF.get(kinds[at - 1])
                kind_now = self.things[words[-1]][0] if words[-1] in self.things else None
                words.append(self.name(ahead or kind_now))
            else:
                words.append(self.word(kind, kinds))
        return " ".join(words)


def what_comes(call, command):
    """The answer, or what the error is and tells."""
    try:
        return "told", call(command)
    except FAILURES as error:
        return type(error), vars(error)


class DrawnTest(unittest.TestCase):
    def check_all(self, desk, plain):
        things, noted = plain.kept(plain.done)
        states = plain.states(plain.done)
        self.assertEqual([desk.names, desk.labels], [sorted(things), sorted(noted)])
        self.assertTrue(alike(desk.lines(), plain.done))
        self.assertEqual(len(desk), len(plain.done))
        for name, (_, _, value) in things.items():
            self.assertTrue(alike(desk[name], value))
        for label, words in noted.items():
            expected = None if states[label] == "gone" else plain.claim(things, words)
            self.assertTrue(alike(desk.claim_of(label), expected))

    def run_all(self, seed, many, rows):
        desk, plain, drawn = Desk(), PlainDesk(), Drawn(seed)
        found = {}
        for step in range(many):
            drawn.things, drawn.noted = plain.kept(plain.done)
            command = AHEAD[step] if step < len(AHEAD) else drawn.command(rows)
            right, told = what_comes(plain.do, command), what_comes(desk.do, command)
            self.assertEqual(told, right, (seed, step, command, plain.done))
            self.assertTrue(right[0] != "told" or alike(told[1], right[1]))
            self.check_all(desk, plain)
            found[right[0]] = found.get(right[0], 0) + 1
        self.assertEqual(what_comes(Desk.again(desk.lines()).do, "states"), what_comes(plain.do, "states"))
        return found

    def test_all_commands(self):
        rows = DEED_ROWS + OTHER_ROWS + ["undo", "redo", "undo", "drop NAME"] * 3
        found = {}
        for seed in range(24):
            for kind, many in self.run_all(seed, 110, rows).items():
                found[kind] = found.get(kind, 0) + many
        self.assertGreater(found["told"], 1500)
        wanted = [errors.UnknownName, errors.NameTaken, errors.LabelTaken, errors.UnknownLabel, errors.UnlikeFields,
                  errors.NothingToRedo, errors.InvalidClaim, errors.InvalidElement, errors.InvalidElements,
                  errors.InvalidModulus, errors.InvalidTurner, errors.NoughtTurner, errors.TooMany]
        for kind in wanted:
            self.assertGreater(found.get(kind, 0), 0, kind)

    def test_many_claims(self):
        noting = [row for row in DEED_ROWS if row.startswith("claim")]
        rows = DEED_ROWS + noting * 3 + ["change WORD COUNT ELEMENT", "drop NAME", "undo"] * 6
        for seed in range(100, 112):
            self.run_all(seed, 110, rows)


if __name__ == "__main__":
    unittest.main()
