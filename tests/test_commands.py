"""Points 95, 97 and 98: names, and which strings are commands and deeds by their words alone."""

import unittest

from tests.helpers import EIGHT, GREAT, check_named
from turnpowers.commands import is_command, is_deed, is_name

DEEDS = """field NEW COUNT ELEMENTS|turner NEW FIELD ELEMENTS|space NEW FIELD ELEMENTS|word NEW FIELD ELEMENTS
book NEW FIELD ELEMENTS COUNT|sum NEW ONE OTHER|less NEW ONE OTHER|put NEW ONE OTHER|scaled NEW ONE ELEMENT
quotient NEW ONE OTHER|rest NEW ONE OTHER|inner NEW ONE OTHER|outer NEW ONE OTHER|joint NEW ONE OTHER|map NEW ONE
mirror NEW ONE|middle NEW ONE|roots NEW ONE|rooted NEW SPACE|meet NEW SPACE OTHER|join NEW SPACE OTHER
wordof NEW BOOK ONE|mended NEW BOOK WORD|more SPACE ELEMENT|change WORD COUNT ELEMENT|drop NAME
claim LABEL inner ONE OTHER|claim LABEL notinner ONE OTHER|claim LABEL full ONE|claim LABEL notfull ONE
claim LABEL whole ONE|claim LABEL apart ONE|claim LABEL like FIELD ELEMENT ELEMENT
claim LABEL unlike FIELD ELEMENT ELEMENT|claim LABEL near BOOK WORD|claim LABEL far BOOK WORD
claim LABEL free FIELD ELEMENTS|claim LABEL tied FIELD ELEMENTS|forget LABEL"""
OTHERS = """undo|redo|state LABEL|states|claimed LABEL|names|show NAME|times FIELD ELEMENT ELEMENT|norm FIELD ELEMENT
trace FIELD ELEMENT|degree ONE|worth ONE ELEMENT|rank ONE|inners ONE|full ONE|whole ONE|dimension SPACE
has SPACE ELEMENT|within SPACE OTHER|reach BOOK|ranks BOOK|off BOOK WORD OTHER|told BOOK WORD|same NAME OTHER"""
DEED_ROWS = DEEDS.replace("\n", "|").split("|")
OTHER_ROWS = OTHERS.replace("\n", "|").split("|")

NAMES = ["a", "z", "ab", "t1", "a2345678", "abcdefgh", "undo", "field", "x0", "a00"]
NO_NAMES = ["", "A", "aB", "1", "1a", "0", "abcdefghi", "a_", "a-b", "-", "a,b", "a.", "a\n", "\na", "_a", "a1234567b",
            "+a"]
ELEMENTS_MORE = ["-", "0", "1,0", "999,0,10", "1,1,1,1,1,1,1,1,1,1,1,1,1"]
GOOD = {"COUNT": ["0", "1", "9", "10", "99"], "ELEMENT": ["0", "1", "10", "99", "100", "999"],
        "ELEMENTS": ELEMENTS_MORE}
NO_NUMBERS = ["", "00", "01", "+1", "-1", "1.", "1_0", "a", "0x1", "1\n", "-", "1,", ",", "1,2", "--", "012",
              str(GREAT)]
BAD = {
    "COUNT": NO_NUMBERS + ["100", "010", "1e1"],
    "ELEMENT": NO_NUMBERS + ["1000", "0100", "9999"],
    "ELEMENTS": ["", "00", "01", "+1", "-1", "1.", "a", "1,", ",1", ",", "1,,2", "1,02", "1000", "1,1000", "--", "-,-",
                 "1;2", "1,-", "1\n", "1,\n2", ",".join("1" * 14), "1,a", "0,0,00", str(GREAT), "1,", "[1]", "1,1,"],
}


def good_words(kind):
    """Words that are told for a kind in the tables."""
    if kind in GOOD:
        return GOOD[kind]
    return NAMES if kind.isupper() else [kind]


def bad_words(kind):
    """Words that are none of a kind."""
    if kind in BAD:
        return BAD[kind]
    return NO_NAMES if kind.isupper() else ["", kind + "x", kind.upper(), kind[:-1], "claims", "-"]


def good_command(row, start):
    """A command of a row."""
    words = []
    for at, kind in enumerate(row.split(" ")):
        choice = good_words(kind)
        words.append(choice[(start + at) % len(choice)])
    return words


class NamesTest(unittest.TestCase):
    def test_names(self):
        for name in NAMES:
            self.assertIs(is_name(name), True)
        for name in NO_NAMES + ["a b", " a", "a ", "a" * 9, "a" * 4000]:
            self.assertIs(is_name(name), False, name)

    def test_any_sign(self):
        small = "abcdefghijklmnopqrstuvwxyz"
        for code in list(range(32, 127)) + [10]:
            self.assertIs(is_name(chr(code)), chr(code) in small)
            self.assertIs(is_name("a" + chr(code)), chr(code) in small + "0123456789")

    def test_any_value(self):
        for value in (None, True, False, 0, 1, GREAT, b"a", [], (), {}, ["a"], ("a",), EIGHT, is_name, 10 ** 600):
            for function in (is_name, is_command, is_deed):
                self.assertIs(function(value), False)

    def test_by_name(self):
        check_named(self, is_name, ["value"], ["a"], True)
        check_named(self, is_command, ["value"], ["undo"], True)
        check_named(self, is_deed, ["value"], ["undo"], False)


class CommandsTest(unittest.TestCase):
    def check_command(self, command, known, deed):
        self.assertIs(is_command(command), known, command)
        self.assertIs(is_deed(command), deed, command)

    def test_examples(self):
        found = [is_command("turner t f 1,0,12"), is_command("turner t f 1, 2"), is_deed("claim k inner t u"),
                 is_command("claim k free f 1,2"), is_deed("degree t"), is_command("worth t 012")]
        self.assertEqual(found, [True, False, True, True, False, False])

    def test_good_ones(self):
        for row in DEED_ROWS + OTHER_ROWS:
            for start in range(30):
                self.check_command(" ".join(good_command(row, start)), True, row in DEED_ROWS)

    def test_one_word_otherwise(self):
        for row in DEED_ROWS + OTHER_ROWS:
            kinds, words = row.split(" "), good_command(row, 3)
            for at, kind in enumerate(kinds):
                for bad in bad_words(kind):
                    # Without its last letter the word of one command is that of another one.
                    if (at, bad) not in ((0, "rank"), (0, "join")):
                        self.check_command(" ".join(words[:at] + [bad] + words[at + 1:]), False, False)

    def test_words_more_and_less(self):
        for row in DEED_ROWS + OTHER_ROWS:
            words = good_command(row, 3)
            command = " ".join(words)
            for other in (command + " ", " " + command, command + "\n", command + " a", command + " 1", "a " + command,
                          command + " -", command.upper(), "\n" + command, command + " " + command, command + ","):
                self.check_command(other, False, False)
            for at in range(1, len(words)):
                self.check_command(" ".join(words[:at]), words[:at] in (["undo"], ["redo"]), False)
                self.check_command(" ".join(words[:at] + [""] + words[at:]), False, False)
                self.check_command(" ".join(words[:at]) + "\n" + " ".join(words[at:]), False, False)

    def test_no_rows(self):
        for command in ("", " ", "-", "claim", "claim k", "claim k inner", "claim inner t u", "claim k inner t", "t",
                        "NEW", "claim k outer t u", "claim k state", "claim K full t", "claim k full 1", "undo undo",
                        "desk", "claim k near b w w", "claim k names", "copy d", "lines", "attach k 1", "fits k",
                        "read t", "space s f 1 2", "book b f 1,2", "book b 1 f 1,2", "point", "inner t u",
                        "field f 2 1,1,1 1"):
            self.check_command(command, False, False)

    def test_two_meanings(self):
        # Words of both tables, or of a claim and of a command.
        self.check_command("full t", True, False)
        self.check_command("whole t", True, False)
        self.check_command("inner n t u", True, True)
        self.check_command("claim k full t", True, True)
        self.check_command("rank t", True, False)
        self.check_command("ranks b", True, False)
        self.check_command("claim claim claim t", False, False)
        self.check_command("claim claim full claim", True, True)
        self.check_command("field field 99 -", True, True)

    def test_names_whatever_is_kept(self):
        self.check_command("sum a a a", True, True)
        self.check_command("claim a inner a a", True, True)
        self.check_command("off a a a", True, False)


if __name__ == "__main__":
    unittest.main()
