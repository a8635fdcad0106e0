"""Points 95 to 98: the desk, its deeds and other commands, states, papers and trials."""

import copy
import unittest

from tests.helpers import EIGHT, GREAT, NINE, alike, check_error, check_new, lists_in
from tests.test_commands import NO_NAMES
from turnpowers.books import Book, word_of
from turnpowers.claims import is_paper_of, paper_of
from turnpowers.desk import Desk, Trial, tried
from turnpowers.division import common_inner, common_outer, divided_in, joint
from turnpowers.errors import (
    CommandFailed, InvalidClaim, InvalidCommand, InvalidElement, InvalidElements, InvalidLines, InvalidMany,
    InvalidModulus, InvalidPaper, InvalidPoints, InvalidPosition, InvalidPrime, InvalidTurner, InvalidWord,
    LabelTaken, NameTaken, NothingToRedo, NothingToUndo, NotNear, NoughtTurner, TooMany, UnknownLabel, UnknownName,
    UnlikeFields,
)
from turnpowers.fields import Field
from turnpowers.maps import as_map, map_rank
from turnpowers.middles import least_middle
from turnpowers.mirrors import mirror
from turnpowers.ranks import rank_row
from turnpowers.roots import roots, space_turner
from turnpowers.spaces import Space, join, meet
from turnpowers.turners import less, put, scaled, sum_of

NO_NAMES_AT_ALL = NO_NAMES + [None, True, False, 0, 1, GREAT, [], ["f"], ("f",), (), {}, {"f": 1}, EIGHT, b"f"]
THINGS = ["field f 2 1,1,0,1", "field g 3 1,0,1", "turner t f 1,1,1", "turner u f 2,1", "space s f 2,4",
          "space r f 1,2", "book b f 1,2,4 1", "word w f 2,6,6", "turner n g 5,1"]
MOST = ["field f 2 1,1,0,1"] + [f"turner t{at} f 1,{at % 8}" for at in range(11)]


def ready(*more):
    """A desk with some things, behind some more commands."""
    desk = Desk()
    desk.do_all(*THINGS)
    desk.do_all(*more)
    return desk


def picture(desk):
    """All that can be seen of a desk, what can be done again among it."""
    other = desk.copy()
    things = {name: (desk[name], desk.do(f"show {name}")) for name in desk.names}
    claims = {label: (desk.claim_of(label), desk.do(f"claimed {label}"), desk.do(f"state {label}"), desk.fits(label))
              for label in desk.labels}
    told = [desk.names, desk.labels, things, claims, desk.lines(), len(desk), desk.do("states"), desk.do("names")]
    redone = []
    while True:
        try:
            redone.append((other.do("redo"), other.do("states"), other.names))
        except NothingToRedo:
            return told + [redone]


class DeskCase(unittest.TestCase):
    def refused(self, desk, command, error, **attributes):
        """The desk refuses the command with this error, as a single one and among others, and all stays as it was."""
        before = picture(desk)
        check_error(self, error, attributes, desk.do, command)
        check_error(self, error, attributes, desk, command)
        for call in (desk.do_all, desk.attempt):
            with self.assertRaises(CommandFailed) as caught:
                call("states", "names", command, "names")
            self.assertEqual(caught.exception.position, 2)
            self.assertIs(type(caught.exception.__cause__), error)
            for name, value in attributes.items():
                self.assertTrue(alike(getattr(caught.exception.__cause__, name), value))
        self.assertEqual(picture(desk), before)

    def told(self, desk, *pairs):
        """The desk answers commands so."""
        for command, answer in pairs:
            found = desk.do(command)
            self.assertTrue(alike(found, answer), (command, found, answer))


class ExamplesTest(unittest.TestCase):
    def test_examples(self):
        desk = Desk()
        found = desk.do_all("field f 2 1,1,0,1", "turner t f 1,1,1", "turner u f 2,1", "claim k inner t u",
                            "quotient q t u", "show q", "inners t", "worth t 3", "roots s t", "dimension s")
        self.assertEqual(found, ["-", "-", "-", "k true", "-", "5,1", "2 4 6", "1", "-", "2"])
        found = desk.do_all("book b f 1,2,4 1", "word w f 4,1,2", "claim n near b w", "mended m b w", "show m",
                            "ranks b", "wordof v b m", "off b v w", "change w 1 4", "states", "undo", "has s 6")
        self.assertEqual(found, ["-", "-", "n true", "-", "5", "1 0 0 7", "-", "1", "n false", "k true, n false",
                                 "change w 1 4", "yes"])


class KeptTest(DeskCase):
    def test_nothing_at_first(self):
        desk = Desk()
        self.assertTrue(alike([desk.names, desk.labels, len(desk), desk.lines()], [[], [], 0, []]))
        self.told(desk, ("names", "-"), ("states", "-"))
        self.refused(desk, "undo", NothingToUndo)
        self.refused(desk, "redo", NothingToRedo)

    def test_what_is_kept(self):
        desk = ready("drop n", "drop r", "field h 2 1,1,1", "turner o f 3,0,0", "turner p f -", "word e f -",
                     "space z f -")
        self.assertEqual(desk["f"], EIGHT)
        self.assertEqual(desk["h"], Field(2, [1, 1, 1]))
        self.assertTrue(alike(desk["t"], [1, 1, 1]))
        self.assertTrue(alike(desk["o"], [3]))
        self.assertTrue(alike(desk["p"], []))
        self.assertTrue(alike(desk["w"], [2, 6, 6]))
        self.assertTrue(alike(desk["e"], []))
        self.assertEqual([desk["s"], desk["z"]], [Space(EIGHT, [2, 4]), Space(EIGHT, [])])
        self.assertEqual(desk["b"], Book(EIGHT, [1, 2, 4], 1))
        self.assertEqual([type(desk[name]) for name in ("f", "s", "b")], [Field, Space, Book])
        self.assertEqual(desk.names, ["b", "e", "f", "g", "h", "o", "p", "s", "t", "u", "w", "z"])

    def test_words_stay_as_they_are(self):
        desk = ready("word v f 3,0,0", "turner v1 f 3,0,0")
        self.assertEqual([desk["v"], desk["v1"]], [[3, 0, 0], [3]])
        self.told(desk, ("show v", "3,0,0"), ("show v1", "3"))

    def test_names_and_labels(self):
        desk = ready("claim t full t", "claim a free f 1,2")
        self.assertTrue(alike(desk.names, ["b", "f", "g", "n", "r", "s", "t", "u", "w"]))
        self.assertTrue(alike(desk.labels, ["a", "t"]))
        for name in desk.names:
            self.assertIs(name in desk, True)
        for name in ("a", "x", "names") + tuple(NO_NAMES_AT_ALL):
            if name != ["f"]:
                self.assertIs(name in desk, False)
            check_error(self, UnknownName, {"value": name}, desk.__getitem__, name)
        for label in ["f", "u", "x"] + NO_NAMES_AT_ALL:
            check_error(self, UnknownLabel, {"value": label}, desk.claim_of, label)
            check_error(self, UnknownLabel, {"value": label}, desk.claim_of, label=label)
            check_error(self, UnknownLabel, {"value": label}, desk.fits, label)
            check_error(self, UnknownLabel, {"value": label}, desk.attach, label, [1])

    def test_new_lists(self):
        desk = ready("claim k free f 1,2", "claim n near b w", "claim i inner t u")
        before = picture(desk)
        for made in (desk.names, desk.labels, desk.lines(), desk["t"], desk["w"], desk.claim_of("k")[2],
                     desk.claim_of("n")[2], desk.claim_of("i")[2], desk.claim_of("i")[3]):
            made.append("x")
            made[0] = "y"
        self.assertEqual(picture(desk), before)
        for call in (lambda: desk.names, desk.lines, lambda: desk["w"], lambda: desk.claim_of("i")):
            check_new(self, call(), [call()])

    def test_not_iterated_over(self):
        desk = ready()
        with self.assertRaises(TypeError):
            list(desk)

    def test_what_is_kept_hangs_on_no_other_name(self):
        desk = ready("drop f", "drop g")
        self.told(desk, ("show t", "1,1,1"), ("inners t", "2 4 6"), ("sum x t u", "-"), ("show x", "3,0,1"),
                  ("field f 2 1,0,1,1", "-"), ("worth t 3", "1"), ("mended m b w", "-"), ("show m", "3"))
        self.refused(desk, "turner t1 g 1", UnknownName, value="g")

    def test_properties_are_not_set(self):
        for name in ("names", "labels"):
            with self.assertRaises(AttributeError):
                setattr(Desk(), name, [])


class DeedsTest(DeskCase):
    def made(self, command, value, *ahead):
        """A deed keeps this under the name that is its second word; nothing else is changed."""
        desk = ready(*ahead)
        before = {name: desk[name] for name in desk.names}
        name = command.split(" ")[1]
        self.assertEqual(desk.do(command), "-")
        self.assertTrue(alike(desk[name], value), (command, desk[name]))
        before[name] = value
        self.assertEqual({name: desk[name] for name in desk.names}, before)
        self.assertEqual(desk.lines()[-1], command)

    def test_from_elements(self):
        self.made("field x 2 1,1,1", Field(2, [1, 1, 1]))
        self.made("field x 7 1,0,1", Field(7, [1, 0, 1]))
        self.made("turner x f 1,0,7,0", [1, 0, 7])
        self.made("turner x g 8", [8])
        self.made("turner x f " + ",".join("1" * 13), [1] * 13)
        self.made("space x f 6,5", Space(EIGHT, [3, 5]))
        self.made("space x f " + ",".join("1" * 12), Space(EIGHT, [1]))
        self.made("word x g 8,0,8,0", [8, 0, 8, 0])
        self.made("word x g " + ",".join("0" * 12), [0] * 12)
        self.made("book x g 3,1 2", Book(NINE, [3, 1], 2))

    def test_from_turners(self):
        one, other = [1, 1, 1], [2, 1]
        self.made("sum x t u", sum_of(EIGHT, one, other))
        self.made("less x u t", less(EIGHT, other, one))
        self.made("less x t t", [])
        self.made("put x t u", put(EIGHT, one, other))
        self.made("put x u t", put(EIGHT, other, one))
        self.made("scaled x t 5", scaled(EIGHT, one, 5))
        self.made("scaled x t 0", [])
        self.made("quotient x t u", divided_in(EIGHT, one, other)[0])
        self.made("rest x v u", divided_in(EIGHT, [1, 1, 5], other)[1], "turner v f 1,1,5")
        self.made("quotient x v u", divided_in(EIGHT, [1, 1, 5], other)[0], "turner v f 1,1,5")
        self.made("inner x t u", common_inner(EIGHT, one, other))
        self.made("outer x v u", common_outer(EIGHT, [3, 4, 1], other), "turner v f 3,4,1")
        self.made("joint x v u", joint(EIGHT, [4, 1], other), "turner v f 4,1")
        self.made("map x v", as_map(EIGHT, [3, 0, 0, 1]), "turner v f 3,0,0,1")
        self.made("mirror x v", mirror(EIGHT, [0, 2]), "turner v f 0,2")
        self.made("middle x u", least_middle(EIGHT, other))
        self.made("roots x t", roots(EIGHT, one))
        self.made("sum x n n", [7, 2])

    def test_from_spaces_books_and_words(self):
        space, other = Space(EIGHT, [2, 4]), Space(EIGHT, [1, 2])
        self.made("rooted x s", space_turner(space))
        self.made("meet x s r", meet(space, other))
        self.made("join x s r", join(space, other))
        self.made("wordof x b v", word_of(Book(EIGHT, [1, 2, 4], 1), [3]), "turner v f 3")
        self.made("mended x b w", [3])

    def test_made_words_are_words(self):
        desk = ready("drop n", "turner v f 3", "wordof x b v", "mended y b w", "rooted z s")
        self.told(desk, ("off b x w", "1"), ("told b x", "yes"), ("degree y", "0"), ("degree z", "2"))
        self.refused(desk, "degree x", UnknownName, value="x")
        self.refused(desk, "told b y", UnknownName, value="y")

    def test_more(self):
        desk = ready("space z f -")
        self.told(desk, ("more s 2", "-"), ("show s", "2,4"), ("more s 5", "-"), ("show s", "1,2,4"), ("more z 0", "-"),
                  ("show z", "-"), ("more z 6", "-"), ("show z", "6"))
        self.assertEqual(desk["s"], Space(EIGHT, [1, 2, 4]))
        self.refused(desk, "more s 8", InvalidElement, value=8)
        self.refused(desk, "more w 1", UnknownName, value="w")

    def test_change(self):
        desk = ready("word e f -")
        self.told(desk, ("change w 0 7", "-"), ("show w", "7,6,6"), ("change w 2 0", "-"), ("show w", "7,6,0"),
                  ("change w 1 6", "-"), ("show w", "7,6,0"), ("undo", "change w 1 6"), ("undo", "change w 2 0"))
        self.assertEqual(desk["w"], [7, 6, 6])
        self.refused(desk, "change w 3 8", InvalidPosition, value=3)
        self.refused(desk, "change w 99 1", InvalidPosition, value=99)
        self.refused(desk, "change e 0 1", InvalidPosition, value=0)
        self.refused(desk, "change w 2 8", InvalidElement, value=8)
        self.refused(desk, "change t 0 1", UnknownName, value="t")

    def test_drop(self):
        desk = ready()
        for name in list(desk.names):
            self.told(desk, (f"drop {name}", "-"))
            self.assertIs(name in desk, False)
            self.refused(desk, f"drop {name}", UnknownName, value=name)
        self.assertEqual(desk.names, [])
        self.told(desk, ("field f 5 2,0,1", "-"), ("show f", "5 2,0,1"))

    def test_a_name_again(self):
        desk = ready("drop t", "space t f 1")
        self.assertEqual(desk["t"], Space(EIGHT, [1]))
        self.refused(desk, "degree t", UnknownName, value="t")


class RefusedTest(DeskCase):
    def test_no_commands(self):
        desk = ready("claim k inner t u", "undo")
        values = [None, True, False, 0, 1, GREAT, "", " ", "do", "Undo", "undo ", "names\n", [], ["names"], ("names",),
                  {}, b"names", EIGHT, "turner x f 1, 2", "worth t 012", "field x 2 1,1,01", "claim k", "turner X f 1",
                  "turner x f 1 1", "book x f 1", "sum x t", "has s", "claim k inner t", "show", "more s 1000",
                  "drop 1"]
        for value in values:
            self.refused(desk, value, InvalidCommand, value=value)

    def test_taken(self):
        desk = ready("claim k inner t u")
        for command in ("field f 4 9", "turner f x 99", "sum f x y", "book t x 99 0", "roots u x", "mended w x y",
                        "map t n"):
            self.refused(desk, command, NameTaken, name=command.split(" ")[1])
        for command in ("claim k inner x y", "claim k full t", "claim k like t 99 99", "claim k inner t u"):
            self.refused(desk, command, LabelTaken, label="k")
        # A label may be a name, and the other way round.
        self.told(desk, ("turner k f 1", "-"), ("claim t full t", "t true"), ("claim f full k", "f true"))

    def test_unknown(self):
        desk = ready("claim k inner t u")
        rows = [("turner x y 99", "y"), ("turner x t 1", "t"), ("book x s 0 0", "s"), ("sum x f t", "f"),
                ("sum x t f", "f"), ("sum x y z", "y"), ("sum x t z", "z"), ("sum x s t", "s"), ("sum x t s", "s"),
                ("sum x t w", "w"), ("scaled x w 99", "w"), ("map x s", "s"), ("roots x b", "b"), ("rooted x t", "t"),
                ("meet x s t", "t"), ("meet x t s", "t"), ("join x s f", "f"), ("wordof x t b", "t"),
                ("wordof x b w", "w"), ("mended x b t", "t"), ("mended x w b", "w"), ("more t 99", "t"),
                ("change s 0 1", "s"), ("drop x", "x"), ("drop k", "k"), ("claim l inner t s", "s"),
                ("claim l inner s t", "s"), ("claim l full w", "w"), ("claim l like t 1 2", "t"),
                ("claim l near w b", "w"), ("claim l near b t", "t"), ("claim l free b 1", "b"),
                ("claim l tied x 99", "x"), ("show x", "x"), ("times t 1 2", "t"), ("norm x 99", "x"),
                ("degree w", "w"), ("worth s 1", "s"), ("rank f", "f"), ("inners b", "b"), ("full s", "s"),
                ("whole x", "x"), ("dimension t", "t"), ("has t 99", "t"), ("within s t", "t"), ("within t s", "t"),
                ("reach w", "w"), ("ranks f", "f"), ("off b w t", "t"), ("off b t w", "t"), ("off w b w", "w"),
                ("told b s", "s"), ("same t w", "w"), ("same w t", "t"), ("same f s", "s"), ("same x y", "x"),
                ("same t y", "y"), ("trace u 99", "u")]
        for command, name in rows:
            self.refused(desk, command, UnknownName, value=name)
        for command in ("state x", "claimed t", "forget x", "forget t", "state f"):
            self.refused(desk, command, UnknownLabel, value=command.split(" ")[1])

    def test_unlike_fields(self):
        desk = ready("space q g 1", "word v g 8", "book d g 1,3 1", "drop r")
        for command in ("sum x t n", "sum x n t", "less x t n", "put x t n", "quotient x t n", "rest x n t",
                        "inner x t n", "outer x t n", "joint x t n", "meet x s q", "join x q s", "wordof x b n",
                        "wordof x d t", "mended x b v", "mended x d w", "within s q", "off b v v", "off b w v",
                        "off b v w", "off d w w", "told b v", "told d w", "claim k inner t n", "claim k notinner n t",
                        "claim k near b v", "claim k far d w"):
            self.refused(desk, command, UnlikeFields)
        self.told(desk, ("same t n", "no"), ("same s q", "no"), ("same f g", "no"), ("same b d", "no"),
                  ("same w v", "no"))

    def test_equal_fields_are_not_unlike(self):
        desk = ready("field h 2 1,1,0,1", "turner v h 4,1", "drop f")
        self.told(desk, ("joint x u v", "-"), ("show x", "1,1,1"), ("same h h", "yes"))

    def test_errors_of_what_makes(self):
        desk = ready("turner o f -", "turner v f 0,0,0,0,0,0,0,0,1", "drop r")
        rows = [("field x 4 1,1,1", InvalidPrime, 4), ("field x 0 -", InvalidPrime, 0),
                ("field x 11 1,0,1", InvalidPrime, 11), ("field x 2 1,0,1", InvalidModulus, [1, 0, 1]),
                ("field x 2 -", InvalidModulus, []), ("field x 3 1,0,3", InvalidModulus, [1, 0, 3]),
                ("turner x f 1,8", InvalidTurner, [1, 8]), ("turner x f 999", InvalidTurner, [999]),
                ("space x f 8,1", InvalidElements, [8, 1]),
                ("space x f 1,1,1,1,1,1,1,1,1,1,1,1,1", InvalidElements, [1] * 13),
                ("word x f 0,0,0,0,0,0,0,0,0,0,0,0,0", InvalidElements, [0] * 13),
                ("word x f 8", InvalidElements, [8]), ("book x f 1,1 1", InvalidPoints, [1, 1]),
                ("book x f - 1", InvalidPoints, []), ("book x f 0 1", InvalidPoints, [0]),
                ("book x f 9 0", InvalidPoints, [9]), ("book x f 1,2 0", InvalidMany, 0),
                ("book x f 1,2 3", InvalidMany, 3), ("scaled x t 8", InvalidElement, 8),
                ("wordof x b t", InvalidTurner, [1, 1, 1]), ("wordof x b u", InvalidTurner, [2, 1]),
                ("times f 8 9", InvalidElement, 8), ("times f 1 9", InvalidElement, 9), ("norm f 8", InvalidElement, 8),
                ("trace g 9", InvalidElement, 9), ("worth t 8", InvalidElement, 8), ("has s 8", InvalidElement, 8)]
        for command, error, value in rows:
            self.refused(desk, command, error, value=value)
        for command in ("quotient x t o", "rest x o o", "joint x o t", "joint x t o", "roots x o", "middle x o",
                        "inners o", "full o", "whole o"):
            self.refused(desk, command, NoughtTurner)
        self.refused(desk, "put x v v", TooMany, what="degree", limit=12)
        self.refused(desk, "whole v", TooMany, what="degree", limit=3)
        self.refused(desk, "field x 2 1,1,0,0,0,0,0,0,0,1", TooMany, what="elements", limit=128)

    def test_words_of_another_length(self):
        desk = ready("drop n", "drop r", "word v f 1,2", "word y f 1,2,3,4", "word a f -", "word c f 1,4,6")
        for name, row in (("v", [1, 2]), ("y", [1, 2, 3, 4]), ("a", [])):
            self.refused(desk, f"mended x b {name}", InvalidWord, value=row)
            self.refused(desk, f"off b {name} w", InvalidWord, value=row)
            self.refused(desk, f"off b w {name}", InvalidWord, value=row)
            self.told(desk, (f"told b {name}", "no"))
        self.refused(desk, "mended x b c", NotNear)

    def test_no_claims(self):
        desk = ready("turner o f -", "word v f 1,2")
        rows = [("inner t o", ("inner", EIGHT, [1, 1, 1], [])), ("notinner o o", ("notinner", EIGHT, [], [])),
                ("full o", ("full", EIGHT, [])), ("notfull o", ("notfull", EIGHT, [])),
                ("whole o", ("whole", EIGHT, [])), ("like f 1 8", ("like", EIGHT, 1, 8)),
                ("unlike f 999 0", ("unlike", EIGHT, 999, 0)),
                ("near b v", ("near", Book(EIGHT, [1, 2, 4], 1), [1, 2])), ("free f 1,8", ("free", EIGHT, [1, 8])),
                ("far b v", ("far", Book(EIGHT, [1, 2, 4], 1), [1, 2])), ("tied f 9", ("tied", EIGHT, [9])),
                ("tied f 0,0,0,0,0,0,0,0,0,0,0,0,0", ("tied", EIGHT, [0] * 13))]
        for words, claim in rows:
            self.refused(desk, "claim k " + words, InvalidClaim, value=claim)
        desk.do_all("drop g", "turner c f 5", "turner d f 1,0,0,0,1", "drop c")
        self.refused(desk, "claim k whole d", InvalidClaim, value=("whole", EIGHT, [1, 0, 0, 0, 1]))
        self.refused(desk, "claim k apart d", InvalidClaim, value=("apart", EIGHT, [1, 0, 0, 0, 1]))


class LimitsTest(DeskCase):
    def test_names(self):
        desk = Desk()
        desk.do_all(*MOST)
        self.assertEqual(len(desk.names), 12)
        for command in ("turner x f 1", "field x 2 1,1,1", "sum x t1 t2", "roots x t1", "word x f -"):
            self.refused(desk, command, TooMany, what="names", limit=12)
        self.refused(desk, "turner x f 8", InvalidTurner, value=[8])
        self.refused(desk, "roots x y", UnknownName, value="y")
        self.told(desk, ("drop t4", "-"), ("turner x f 1", "-"))
        self.refused(desk, "turner t4 f 1", TooMany, what="names", limit=12)
        self.told(desk, ("claim k full x", "k true"))

    def test_labels(self):
        desk = ready(*[f"claim k{at} free f {at % 8}" for at in range(12)])
        self.assertEqual(len(desk.labels), 12)
        self.refused(desk, "claim x full t", TooMany, what="labels", limit=12)
        self.refused(desk, "claim x free f 8", InvalidClaim, value=("free", EIGHT, [8]))
        self.refused(desk, "claim x full y", UnknownName, value="y")
        self.told(desk, ("forget k3", "-"), ("claim x full t", "x true"))
        self.refused(desk, "claim y full t", TooMany, what="labels", limit=12)

    def test_deeds(self):
        desk = ready("claim k near b w")
        while len(desk) < 300:
            at = len(desk)
            desk.do(f"change w 0 {at % 8}")
        for command in ("change w 0 1", "turner x f 1", "claim l full t", "forget k", "drop t", "more s 1"):
            self.refused(desk, command, TooMany, what="deeds", limit=300)
        self.refused(desk, "change w 0 8", InvalidElement, value=8)
        self.refused(desk, "forget x", UnknownLabel, value="x")
        self.refused(desk, "turner f f 1", NameTaken, name="f")
        self.assertEqual(len(Desk.again(desk.lines())), 300)
        line = desk.lines()[-1]
        self.told(desk, ("undo", line), ("redo", line), ("undo", line), ("drop t", "-"))
        self.refused(desk, "drop u", TooMany, what="deeds", limit=300)
        self.refused(desk, "redo", NothingToRedo)
        lines = desk.lines() + ["drop u"]
        check_error(self, CommandFailed, {"position": 300}, Desk.again, lines)

    def test_names_ahead_of_deeds(self):
        desk = Desk()
        desk.do_all(*MOST, *[f"claim k{at} free f {at % 8}" for at in range(12)])
        while len(desk) < 300:
            desk.do_all("drop t1", "turner t1 f 1")
        self.refused(desk, "turner x f 1", TooMany, what="names", limit=12)
        self.refused(desk, "claim x free f 1", TooMany, what="labels", limit=12)
        self.refused(desk, "drop t1", TooMany, what="deeds", limit=300)

    def test_other_commands_are_no_deeds(self):
        desk = ready("claim k inner t u")
        before = len(desk)
        desk.do_all("states", "names", "show t", "degree t", "same t u", "state k", "claimed k", "full t", "reach b")
        self.assertEqual(len(desk), before)
        self.assertEqual(desk.lines(), THINGS + ["claim k inner t u"])


class StatesTest(DeskCase):
    def test_true_false_and_gone(self):
        desk = ready("drop r")
        self.told(desk, ("claim k inner t u", "k true"), ("claim a notinner t u", "a false"),
                  ("states", "a false, k true"), ("state k", "true"), ("state a", "false"),
                  ("drop u", "a gone, k gone"), ("states", "a gone, k gone"), ("state a", "gone"),
                  ("claimed k", "inner t u"), ("turner u f 1,1", "a true, k false"),
                  ("drop u", "a gone, k gone"), ("space u f 1", "-"), ("drop u", "-"), ("turner u f -", "-"),
                  ("drop u", "-"), ("turner u g 2,1", "-"), ("drop u", "-"), ("turner u f 6,1", "a false, k true"))
        self.assertEqual(desk.claim_of("k"), ("inner", EIGHT, [1, 1, 1], [6, 1]))

    def test_claim_of(self):
        desk = ready()
        rows = [("full t", ("full", EIGHT, [1, 1, 1])), ("like f 2 5", ("like", EIGHT, 2, 5)),
                ("near b w", ("near", Book(EIGHT, [1, 2, 4], 1), [2, 6, 6])),
                ("tied f 1,2,3", ("tied", EIGHT, [1, 2, 3])), ("free f -", ("free", EIGHT, [])),
                ("apart t", ("apart", EIGHT, [1, 1, 1])), ("notinner u t", ("notinner", EIGHT, [2, 1], [1, 1, 1]))]
        for words, claim in rows:
            desk.do("claim k " + words)
            self.assertTrue(alike(desk.claim_of("k"), claim))
            self.assertEqual(desk.do("claimed k"), words)
            names = [name for name in words.split(" ")[1:] if name in desk]
            with Trial(desk):
                desk.do(f"drop {names[-1]}")
                self.assertIsNone(desk.claim_of("k"))
                self.assertIs(desk.fits("k"), False)
            desk.do("forget k")
            check_error(self, UnknownLabel, {"value": "k"}, desk.claim_of, "k")

    def test_each_word(self):
        rows = [("inner t u", "true"), ("inner u t", "false"), ("full t", "true"), ("full o", "false"),
                ("whole u", "true"), ("whole t", "false"), ("like f 2 5", "true"), ("like g 1 4", "false"),
                ("near b w", "true"), ("near b v", "false"), ("free f 1,2,4", "true"), ("free f 1,2,3", "false"),
                ("free f -", "true")]
        others = {"inner": "notinner", "full": "notfull", "whole": "apart", "like": "unlike", "near": "far",
                  "free": "tied"}
        desk = ready("turner o f 0,1", "word v f 1,4,6")
        for words, state in rows:
            word = words.split(" ")[0]
            contrary = words.replace(word, others[word], 1)
            other = {"true": "false", "false": "true"}[state]
            found = desk.attempt(f"claim k {words}", f"claim l {contrary}", "states", "forget k", "states", "forget l")
            self.assertEqual(found, [f"k {state}", f"l {other}", f"k {state}, l {other}", "-", f"l {other}", "-"])

    def test_elements_that_are_none(self):
        desk = ready("claim k like f 5 6", "claim l free f 5,6", "claim m tied f -", "drop f")
        self.told(desk, ("states", "k gone, l gone, m gone"), ("field f 2 1,1,1", "m false"), ("drop f", "m gone"),
                  ("field f 3 1,0,1", "k false, l true, m false"), ("claimed l", "free f 5,6"))

    def test_words_of_another_length(self):
        desk = ready("claim k near b w", "drop w", "word w f 1,2")
        self.told(desk, ("state k", "gone"), ("drop w", "-"), ("word w f 1,4,6", "k false"), ("drop b", "k gone"),
                  ("book b f 1,2,4 2", "k true"), ("drop b", "k gone"), ("drop w", "-"))
        self.told(desk, ("word w f 1,4", "-"), ("book b f 1,2 2", "k true"), ("undo", "book b f 1,2 2"),
                  ("state k", "gone"))

    def test_several_changes(self):
        desk = ready("claim z near b w", "claim a far b w", "claim k free f 1", "claim c near b w")
        self.told(desk, ("change w 0 1", "-"), ("change w 1 4", "a true, c false, z false"), ("change w 0 0", "-"),
                  ("change w 0 5", "a false, c true, z true"), ("forget c", "-"), ("drop b", "a gone, z gone"),
                  ("states", "a gone, k true, z gone"))

    def test_spaces_change_no_claims(self):
        desk = ready("claim k inner t u", "rooted v s", "claim l full v")
        self.told(desk, ("more s 1", "-"), ("show v", "1,1,1"), ("states", "k true, l true"))

    def test_forget_and_note_again(self):
        desk = ready("claim k inner t u", "drop u")
        self.told(desk, ("forget k", "-"), ("states", "-"))
        self.refused(desk, "claim k inner t u", UnknownName, value="u")
        self.told(desk, ("claim k full t", "k true"), ("claimed k", "full t"))


class AnswersTest(DeskCase):
    def test_shows(self):
        desk = ready("turner o f -", "space z f -", "drop n")
        self.told(desk, ("show f", "2 1,1,0,1"), ("show g", "3 1,0,1"), ("show t", "1,1,1"), ("show o", "-"),
                  ("show s", "2,4"), ("show z", "-"), ("show w", "2,6,6"), ("show b", "1,2,4 1"),
                  ("names", "b f g o r s t u w z"))
        self.told(desk, ("drop o", "-"), ("word o f -", "-"), ("show o", "-"))

    def test_elements(self):
        desk = ready()
        self.told(desk, ("times f 2 4", "3"), ("norm f 2", "1"), ("trace f 1", "1"), ("trace f 2", "0"),
                  ("norm g 4", "2"), ("times g 3 3", "2"), ("times f 0 0", "0"))

    def test_turners(self):
        desk = ready("turner o f -", "turner v f 2,1,1", "turner x f 5,0,0")
        self.told(desk, ("degree t", "2"), ("degree o", "-1"), ("degree x", "0"), ("worth t 2", "0"),
                  ("worth t 1", "1"), ("worth o 7", "0"), ("rank t", str(map_rank(EIGHT, [1, 1, 1]))), ("rank o", "0"),
                  ("rank x", "3"), ("inners t", "2 4 6"), ("inners v", "-"), ("full t", "yes"), ("full v", "no"),
                  ("full x", "yes"), ("whole t", "no"), ("whole v", "yes"), ("whole x", "no"))

    def test_spaces(self):
        desk = ready("space z f -", "space y f 2")
        self.told(desk, ("dimension s", "2"), ("dimension z", "0"), ("has s 6", "yes"), ("has s 1", "no"),
                  ("has z 0", "yes"), ("within y s", "yes"), ("within s y", "no"), ("within z y", "yes"),
                  ("within s r", "no"))

    def test_books(self):
        desk = ready("word v f 3,6,7", "book d f 1,2,4 2", "drop r")
        self.told(desk, ("reach b", "1"), ("reach d", "0"), ("ranks b", "1 0 0 7"), ("ranks d", "1 0 49 14"),
                  ("off b w v", "1"), ("off b v v", "0"), ("told b v", "yes"), ("told b w", "no"))
        self.assertEqual(desk.do("ranks d"), " ".join(map(str, rank_row(desk["d"]))))

    def test_same(self):
        desk = ready("field h 2 1,1,0,1", "turner v h 1,1,1,0", "drop g")
        self.told(desk, ("same f h", "yes"), ("same t v", "yes"), ("same t u", "no"), ("same s r", "no"),
                  ("same s s", "yes"), ("same b b", "yes"), ("same w w", "yes"))
        self.told(desk, ("drop n", "-"), ("space q f 6,2", "-"), ("same s q", "yes"), ("drop q", "-"))
        self.told(desk, ("field q 2 1,0,1,1", "-"), ("same f q", "no"), ("drop u", "-"), ("turner u q 1,1,1", "-"),
                  ("same t u", "no"), ("drop v", "-"), ("word v q 2,6,6", "-"), ("same w v", "no"))
        self.told(desk, ("drop v", "-"), ("word v h 2,6,6", "-"), ("same w v", "yes"), ("drop v", "-"),
                  ("book v f 2,1,4 1", "-"), ("same b v", "no"), ("same v v", "yes"))


class UndoTest(DeskCase):
    def test_back_and_forth(self):
        deeds = ["field f 2 1,1,0,1", "turner t f 1,1,1", "turner u f 2,1", "claim k inner t u", "drop u",
                 "turner u f 1,1", "space s f 1", "more s 2", "forget k", "word w f 1,2", "change w 0 7",
                 "claim k full t"]
        desk, pictures = Desk(), []
        for deed in deeds:
            pictures.append(picture(desk)[:-1])
            desk.do(deed)
        last = picture(desk)
        for deed, before in list(zip(deeds, pictures))[::-1]:
            self.told(desk, ("undo", deed))
            self.assertEqual(picture(desk)[:-1], before)
        self.refused(desk, "undo", NothingToUndo)
        for at, deed in enumerate(deeds):
            self.assertEqual(picture(desk)[:-1], pictures[at])
            self.told(desk, ("redo", deed))
        self.assertEqual(picture(desk), last)
        self.refused(desk, "redo", NothingToRedo)

    def test_a_deed_between(self):
        desk = ready("claim k inner t u", "drop u")
        self.told(desk, ("undo", "drop u"), ("undo", "claim k inner t u"), ("redo", "claim k inner t u"),
                  ("change w 0 2", "-"))
        self.refused(desk, "redo", NothingToRedo)
        self.assertEqual(desk.lines()[-2:], ["claim k inner t u", "change w 0 2"])

    def test_others_between(self):
        desk = ready("drop u", "undo")
        desk.do_all("names", "states", "show u")
        self.refused(desk, "turner t f 1", NameTaken, name="t")
        self.refused(desk, "nothing", InvalidCommand, value="nothing")
        self.told(desk, ("redo", "drop u"))

    def test_len(self):
        desk = Desk()
        for many, command in ((1, "field f 2 1,1,1"), (2, "turner t f 1"), (1, "undo"), (0, "undo"), (1, "redo"),
                              (1, "names")):
            desk.do(command)
            self.assertEqual(len(desk), many)
            self.assertEqual(len(desk.lines()), many)


class TogetherTest(DeskCase):
    def test_do_all(self):
        desk = Desk()
        self.assertTrue(alike(desk.do_all(), []))
        found = desk.do_all("field f 2 1,1,1", "names", "undo", "names", "redo", "names")
        self.assertTrue(alike(found, ["-", "f", "field f 2 1,1,1", "-", "field f 2 1,1,1", "f"]))

    def test_fails_in_the_middle(self):
        desk = ready("claim k inner t u", "drop u", "undo")
        before = picture(desk)
        rows = [("turner x f 1", "claim l full x", "undo", "undo", "turner t f 1"), ("drop u", "sum x t u"), (None,),
                ("turner x f 1", 5, "names"), ("redo", "redo"), ("undo",) * 12, ("drop b", "mended x b w", "drop t")]
        wrong = [4, 1, 0, 1, 1, 10, 1]
        kinds = [NameTaken, UnknownName, InvalidCommand, InvalidCommand, NothingToRedo, NothingToUndo, UnknownName]
        for commands, position, kind in zip(rows, wrong, kinds):
            for call in (desk.do_all, desk.attempt):
                with self.assertRaises(CommandFailed) as caught:
                    call(*commands)
                self.assertTrue(alike(caught.exception.position, position))
                self.assertIs(type(caught.exception.__cause__), kind)
                self.assertEqual(picture(desk), before)

    def test_attempt(self):
        desk = ready("claim k inner t u", "drop u", "undo")
        desk.attach("k", [5, 1])
        before = picture(desk)
        found = desk.attempt("turner x f 1", "drop t", "states", "undo", "undo", "names")
        self.assertTrue(alike(found, ["-", "k gone", "k gone", "drop t", "turner x f 1", "b f g n r s t u w"]))
        self.assertEqual(picture(desk), before)
        self.assertTrue(alike(desk.attempt(), []))
        self.told(desk, ("redo", "drop u"))

    def test_call(self):
        desk = Desk()
        self.assertEqual([desk("field f 2 1,1,1"), desk(command="names")], ["-", "f"])
        self.assertEqual(desk.do(command="show f"), "2 1,1,1")


class CopiesTest(DeskCase):
    def test_copy(self):
        desk = ready("claim k inner t u", "change w 0 3", "undo")
        desk.attach("k", [5, 1])
        other = desk.copy()
        self.assertIs(type(other), Desk)
        self.assertEqual(picture(other), picture(desk))
        before = picture(desk)
        other.do_all("redo", "drop u", "turner x f 1")
        self.assertEqual(picture(desk), before)
        kept = picture(other)
        desk.do_all("undo", "undo", "field h 2 1,1,1")
        self.assertEqual(picture(other), kept)
        other = desk.copy()
        self.assertEqual(picture(other), picture(desk))

    def test_papers_of_copies(self):
        desk = ready("claim k inner t u", "claim l full t")
        desk.attach("k", [5, 1])
        other = desk.copy()
        self.assertEqual([other.fits("k"), other.fits("l")], [True, False])
        other.attach("l", [2, 4])
        self.assertEqual([desk.fits("l"), other.fits("l")], [False, True])

    def test_again(self):
        desk = ready("claim k inner t u", "drop u", "undo", "undo", "claim l full t")
        for other in (Desk.again(desk.lines()), Desk.again(tuple(desk.lines())), Desk.again(lines=desk.lines())):
            self.assertIs(type(other), Desk)
            self.assertEqual(picture(other), picture(desk))
        self.assertEqual(picture(Desk.again([])), picture(Desk()))
        lines = desk.lines()
        other = Desk.again(lines)
        lines.append("drop t")
        self.assertEqual(other.lines(), desk.lines())

    def test_again_without_papers_and_what_is_taken_back(self):
        desk = ready("claim k inner t u", "drop g", "undo")
        desk.attach("k", [5, 1])
        other = Desk.again(desk.lines())
        self.assertIs(other.fits("k"), False)
        self.refused(other, "redo", NothingToRedo)

    def test_no_lines(self):
        for lines in (None, True, 0, GREAT, "", "field f 2 1,1,1", {}, {"field f 2 1,1,1": 1}, b"", EIGHT, Desk()):
            check_error(self, InvalidLines, {"position": None}, Desk.again, lines)
        deed = "field f 2 1,1,1"
        for wrong in (None, True, 1, "", "names", "undo", "redo", "states", [deed], (deed,), b"", "turner",
                      "Field f 2 1,1,1"):
            check_error(self, InvalidLines, {"position": 0}, Desk.again, [wrong])
            check_error(self, InvalidLines, {"position": 2}, Desk.again, [deed, deed, wrong, None])
            check_error(self, InvalidLines, {"position": 1}, Desk.again, (deed, wrong))

    def test_lines_that_fail(self):
        deed = "field f 2 1,1,1"
        for lines, position, kind in (([deed, deed], 1, NameTaken), (["drop f"], 0, UnknownName),
                                      ([deed, "turner t f 4"], 1, InvalidTurner), ((deed, "forget k", deed), 1,
                                                                                   UnknownLabel)):
            with self.assertRaises(CommandFailed) as caught:
                Desk.again(lines)
            self.assertTrue(alike(caught.exception.position, position))
            self.assertIs(type(caught.exception.__cause__), kind)


class TrialsTest(DeskCase):
    def ready_for_trial(self):
        desk = ready("claim k inner t u", "drop g", "undo")
        desk.attach("k", [5, 1])
        return desk

    def change_all(self, desk):
        """Change all that a desk has."""
        desk.do_all("turner x f 1", "claim l full t", "drop u", "undo", "forget k", "field h 2 1,1,1")
        desk.attach("l", [2, 4])

    def test_block(self):
        desk = self.ready_for_trial()
        before = picture(desk)
        with Trial(desk) as held:
            self.assertIs(held, desk)
            self.change_all(held)
            self.assertNotEqual(picture(desk), before)
        self.assertEqual(picture(desk), before)
        self.assertIs(desk.fits("k"), True)
        desk.do("claim l full t")
        self.assertIs(desk.fits("l"), False)

    def test_papers(self):
        desk = self.ready_for_trial()
        desk.do("claim l tied f 1,1")
        with Trial(desk):
            desk.attach("l", [1, 1])
            desk.do_all("forget k", "claim k full t")
            desk.attach("k", [2, 4])
        self.assertEqual([desk.fits("k"), desk.fits("l")], [True, False])

    def test_left_by_an_error(self):
        desk = self.ready_for_trial()
        before = picture(desk)
        with self.assertRaises(KeyError):
            with Trial(desk) as held:
                self.change_all(held)
                raise KeyError("x")
        self.assertEqual(picture(desk), before)
        with self.assertRaises(NameTaken):
            with Trial(desk):
                self.change_all(desk)
                desk.do("turner t f 1")
        self.assertEqual(picture(desk), before)

    def test_one_behind_another_and_inside(self):
        desk = self.ready_for_trial()
        before, trial = picture(desk), Trial(desk)
        with trial:
            desk.do("drop t")
        self.assertEqual(picture(desk), before)
        desk.do("drop n")
        between = picture(desk)
        with trial:
            desk.do("drop t")
            inside = picture(desk)
            with Trial(desk):
                desk.do("drop w")
            self.assertEqual(picture(desk), inside)
        self.assertEqual(picture(desk), between)

    def test_as_it_was_ahead_of_the_block(self):
        desk = self.ready_for_trial()
        trial = Trial(desk=desk)
        desk.do("drop n")
        before = picture(desk)
        with trial:
            desk.do("drop t")
        self.assertEqual(picture(desk), before)

    def test_left_by_return_and_break(self):
        desk = self.ready_for_trial()
        before = picture(desk)
        for _ in range(3):
            with Trial(desk):
                desk.do("drop t")
                break
        self.assertEqual(picture(desk), before)

    def test_tried(self):
        desk = self.ready_for_trial()
        before = picture(desk)
        names = ["b", "f", "g", "n", "r", "s", "t", "w"]
        self.assertEqual(tried(desk, lambda held: (held.do("drop u"), held.names)), ("k gone", names))
        self.assertEqual(picture(desk), before)
        self.assertIs(tried(desk=desk, action=lambda held: held), desk)
        self.assertIsNone(tried(desk, self.change_all))
        self.assertEqual(picture(desk), before)

    def test_tried_left_by_an_error(self):
        desk = self.ready_for_trial()
        before = picture(desk)

        def fail(held):
            self.change_all(held)
            held.do("turner t f 1")
        check_error(self, NameTaken, {"name": "t"}, tried, desk, fail)
        self.assertEqual(picture(desk), before)


PAPERS = [
    ("inner t u", [5, 1]), ("notinner u t", ([], [2, 1])), ("full t", [2, 4]), ("like f 2 5", 7), ("near b w", [3]),
    ("far b v", ([1], [0, 1])), ("tied f 1,2,3", [1, 1, 1]), ("apart t", ([5, 1], [2, 1])),
]
CONTRARY = {"inner": "notinner", "notinner": "inner", "full": "notfull", "like": "unlike", "near": "far", "far": "near",
            "tied": "free", "apart": "whole"}


class PapersTest(DeskCase):
    def with_claim(self, words):
        return ready("word v f 1,4,6", f"claim k {words}")

    def test_each_word(self):
        for words, paper in PAPERS:
            word = words.split(" ")[0]
            for said in (word, CONTRARY[word]):
                desk = self.with_claim(words.replace(word, said, 1))
                before = picture(desk)
                self.assertIs(desk.fits("k"), False)
                self.assertIsNone(desk.attach("k", paper))
                self.assertIs(desk.fits("k"), True)
                self.assertEqual([len(desk), desk.lines()], [before[5], before[4]])

    def test_no_papers(self):
        values = [None, True, 0, 1, -1, GREAT, "", "paper", [], (), {}, [0], ([], []), ([1], [1]), [[1]], EIGHT, b"1",
                  [True]]
        for words, paper in PAPERS:
            desk = self.with_claim(words)
            for value in values:
                if not is_paper_of(desk.claim_of("k"), value):
                    self.check_no_paper(desk, value)
            desk.attach("k", paper)
            for value in values[:8]:
                if not is_paper_of(desk.claim_of("k"), value):
                    self.check_no_paper(desk, value)
            self.assertIs(desk.fits("k"), True)

    def check_no_paper(self, desk, value):
        before = picture(desk)
        check_error(self, InvalidPaper, {"value": value}, desk.attach, "k", value)
        check_error(self, InvalidPaper, {"value": value}, desk.attach, paper=value, label="k")
        self.assertEqual(picture(desk), before)

    def test_words_without_papers(self):
        for words in ("notfull t", "unlike f 2 5", "free f 1,2,3", "whole t"):
            desk = self.with_claim(words)
            self.check_no_paper(desk, None)
            paper = paper_of(desk.claim_of("k"))
            self.assertIsNone(paper)
        for words in ("notfull u", "unlike f 0 5", "free f 1,2", "whole u"):
            desk = ready("turner o f 0,1", f"claim k {words}".replace("notfull u", "notfull o"))
            self.assertEqual(desk.do("state k"), "true")
            for value in ([], [0], [0, 0], 1, 7, ([1], [1]), [1, 1]):
                self.check_no_paper(desk, value)

    def test_too_great_ones(self):
        desk = ready("turner a f 1,1,1,1,1,1,1,1,1,1,1,1,1", "claim k inner a t")
        self.check_no_paper(desk, [1] * 13)
        self.check_no_paper(desk, ([1] * 13, [1]))

    def test_gone(self):
        desk = ready("claim k inner t u")
        desk.attach("k", [5, 1])
        desk.do("drop u")
        self.assertIs(desk.fits("k"), False)
        for value in ([5, 1], [], None, ([5, 1], [])):
            self.check_no_paper(desk, value)
        self.told(desk, ("turner u f 2,1", "k true"))
        self.assertIs(desk.fits("k"), True)

    def test_no_longer_fit(self):
        desk = ready("claim k near b w")
        desk.attach("k", [3])
        desk.do_all("change w 0 1", "change w 1 4")
        self.assertEqual([desk.do("state k"), desk.fits("k")], ["false", False])
        desk.do_all("change w 0 3", "change w 1 6")
        self.assertEqual([desk.do("state k"), desk.fits("k")], ["true", True])
        # Another turn sum is within reach of the word now.
        desk.do("change w 0 4")
        self.assertEqual([desk.do("state k"), desk.fits("k")], ["true", False])

    def test_state_that_stays_with_another_paper(self):
        desk = ready("claim k inner t u")
        desk.attach("k", [5, 1])
        desk.do_all("drop u", "turner u f 4,1")
        self.assertEqual([desk.do("state k"), desk.fits("k")], ["true", False])
        desk.attach("k", paper_of(desk.claim_of("k")))
        self.assertIs(desk.fits("k"), True)
        desk.do("undo")
        desk.do("undo")
        self.assertEqual([desk.do("state k"), desk.fits("k")], ["true", False])

    def test_undo_takes_no_paper_back(self):
        desk = ready("claim k inner t u", "drop n")
        desk.attach("k", [5, 1])
        self.told(desk, ("undo", "drop n"), ("undo", "claim k inner t u"))
        check_error(self, UnknownLabel, {"value": "k"}, desk.fits, "k")
        self.told(desk, ("redo", "claim k inner t u"))
        self.assertIs(desk.fits("k"), True)
        self.told(desk, ("redo", "drop n"))
        self.assertIs(desk.fits("k"), True)

    def test_forgotten_and_noted_again(self):
        desk = ready("claim k inner t u")
        desk.attach("k", [5, 1])
        desk.do("forget k")
        check_error(self, UnknownLabel, {"value": "k"}, desk.fits, "k")
        desk.do("claim k inner t u")
        self.assertIs(desk.fits("k"), True)
        # The contrary has other words, and the paper is not one that was kept for it.
        desk.do_all("forget k", "claim k notinner t u")
        self.assertIs(desk.fits("k"), False)
        desk.do_all("forget k", "turner u1 f 2,1", "claim k inner t u1")
        self.assertIs(desk.fits("k"), False)
        desk.do_all("forget k", "claim k inner t u")
        self.assertIs(desk.fits("k"), True)

    def test_of_the_contrary(self):
        desk = ready("claim k notinner t u", "claim l far b w")
        desk.attach("k", [5, 1])
        desk.attach("l", [3])
        self.assertEqual([desk.do("states"), desk.fits("k"), desk.fits("l")], ["k false, l false", True, True])
        desk.do_all("change w 0 1", "change w 1 4")
        self.assertEqual([desk.do("state l"), desk.fits("l")], ["true", False])
        desk.attach("l", ([1], [0, 1]))
        self.assertIs(desk.fits("l"), True)

    def test_in_the_place_of_another(self):
        desk = ready("claim k full t")
        for paper in ([2, 4], (4, 6), [6, 2]):
            desk.attach("k", paper)
            self.assertIs(desk.fits("k"), True)
        check_error(self, InvalidPaper, {"value": [2, 2]}, desk.attach, "k", [2, 2])
        self.assertIs(desk.fits("k"), True)

    def test_copied(self):
        for words, paper in PAPERS:
            desk, given = self.with_claim(words), copy.deepcopy(paper)
            desk.attach("k", given)
            self.assertTrue(alike(given, paper))
            for row in lists_in(given):
                row.append(1)
                row[0] = 99
            self.assertIs(desk.fits("k"), True)

    def test_by_name_and_no_deed(self):
        desk = ready("claim k full t", "drop n", "undo")
        desk.attach(paper=[2, 4], label="k")
        self.assertIs(desk.fits(label="k"), True)
        self.told(desk, ("redo", "drop n"), ("undo", "drop n"), ("undo", "claim k full t"))

    def test_other_labels(self):
        desk = ready("claim k full t", "claim l full t")
        desk.attach("k", [2, 4])
        self.assertEqual([desk.fits("k"), desk.fits("l")], [True, False])


if __name__ == "__main__":
    unittest.main()
