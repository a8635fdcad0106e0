"""Points 93 and 94: claims, their contraries, and papers."""

import unittest
from itertools import product

from tests.helpers import (
    EIGHT, FIELDS, FOUR, GREAT, NINE, OTHER_EIGHT, SIXTEEN, SMALL_BOOKS, TWENTYFIVE, TWENTYSEVEN, WRONG_BOOKS,
    WRONG_FIELDS, PlainBook, alike, books_of, check_error, check_named, check_new, plain_mixtures,
    plain_plus, plain_power, plain_put, plain_rank, plain_sum, plain_times, plain_told_turner, plain_worth, sample,
    turners_of, wrong_lists, wrong_ones,
)
from turnpowers.books import Book, word_of
from turnpowers.claims import contrary, is_claim, is_paper_of, is_true, paper_of, words
from turnpowers.division import divided_in
from turnpowers.errors import InvalidClaim
from turnpowers.mended import is_pair

WORDS = [("inner", "notinner"), ("full", "notfull"), ("like", "unlike"), ("near", "far"), ("free", "tied"),
         ("whole", "apart")]
ALL_WORDS = [word for pair in WORDS for word in pair]
WITHOUT = ("notfull", "unlike", "free", "whole")
BOOK = Book(EIGHT, [1, 2, 4], 1)
GOOD = {
    "inner": [(EIGHT, [1, 1, 1], [2, 1]), (EIGHT, (), (1,)), (NINE, [0, 0], [0, 1, 0]), (FOUR, [1] * 13, [3] * 13)],
    "full": [(EIGHT, [1, 1, 1]), (NINE, (5,)), (EIGHT, [0, 1, 0]), (FOUR, [1] * 13)],
    "like": [(EIGHT, 2, 5), (NINE, 0, 0), (NINE, 1, 8)],
    "near": [(BOOK, [3, 6, 7]), (BOOK, (1, 4, 6)), (Book(NINE, [4], 1), [0])],
    "free": [(EIGHT, []), (EIGHT, (1, 2, 3)), (NINE, [0] * 12)],
    "whole": [(EIGHT, [2, 1]), (EIGHT, (2, 1, 1)), (NINE, [1, 0, 0, 1]), (EIGHT, [0, 0, 1, 0, 0])],
}
ANY = [None, True, False, 0, 1, -1, GREAT, "", "paper", b"", {}, [], (), [0], (0,), [1], (1,), [[]], ([],), ([], []),
       ([1], []), ([0, 1], [1]), [[0, 1], [1]], ([0, 1], [0, 1]), ([1], [0, 1]), EIGHT, BOOK, [1, 1, 1], 3, [True],
       [None], "01", ([1], [1], [1]), Ellipsis, 10 ** 600]


def first_word(word):
    """The first word of the line of a claim's word."""
    return [pair[0] for pair in WORDS if word in pair][0]


def other_word(word):
    """The other word of the line."""
    return [pair[1 - pair.index(word)] for pair in WORDS if word in pair][0]


def all_claims():
    """Some claims of all words."""
    return [(word,) + parts for word in ALL_WORDS for parts in GOOD[first_word(word)]]


class ExamplesTest(unittest.TestCase):
    def test_examples(self):
        self.assertIs(is_paper_of(("notinner", EIGHT, [1, 1, 1], [1, 1]), ([0, 1], [1])), True)
        self.assertIs(is_paper_of(("like", EIGHT, 1, 3), 3), True)
        self.assertIs(is_paper_of(("tied", EIGHT, [1, 2, 3]), [1, 1, 1]), True)
        self.assertIs(is_true(("full", EIGHT, [1, 1, 1])), True)
        self.assertIs(is_paper_of(("near", BOOK, [3, 6, 7]), [3]), True)
        self.assertIs(is_paper_of(("apart", EIGHT, [0, 0, 1]), ([0, 1], [0, 1])), True)
        self.assertEqual(contrary(("free", EIGHT, (1, 2))), ("tied", EIGHT, (1, 2)))

    def test_words(self):
        self.assertTrue(alike(words(), WORDS))
        words().append(None)
        self.assertEqual(words(), WORDS)
        self.assertTrue(all(type(pair) is tuple for pair in words()))


class ClaimsTest(unittest.TestCase):
    def check_none(self, value):
        self.assertIs(is_claim(value), False, value)
        for function in (is_true, contrary, paper_of):
            check_error(self, InvalidClaim, {"value": value}, function, value)
            check_error(self, InvalidClaim, {"value": value}, function, claim=value)
        for paper in (None, [1], ([1], [1])):
            check_error(self, InvalidClaim, {"value": value}, is_paper_of, value, paper)
            check_error(self, InvalidClaim, {"value": value}, is_paper_of, value=paper, claim=value)

    def test_good_ones(self):
        for claim in all_claims():
            self.assertIs(is_claim(claim), True, claim)

    def test_no_tuples_of_the_right_length(self):
        for claim in all_claims():
            for value in (list(claim), claim[1:], claim[:1], claim[:-1], claim + (1,), claim + (None,), claim + ([],)):
                self.check_none(value)
            for value in ((claim,), [claim], claim + claim, (list(claim),), claim[::-1], ()):
                self.check_none(value)

    def test_wrong_words(self):
        for claim in all_claims()[::2]:
            for word in (None, True, 0, "", "Inner", "inner ", "outer", "not", b"inner", ["inner"], ("inner",), {},
                         EIGHT):
                self.check_none((word,) + claim[1:])
        for value in ANY + ["inner", ["inner", EIGHT, [1], [1]], WORDS[0], is_claim]:
            self.check_none(value)

    def test_wrong_fields_and_books(self):
        for claim in all_claims():
            wrongs = WRONG_BOOKS if first_word(claim[0]) == "near" else WRONG_FIELDS + [BOOK]
            for wrong in wrongs:
                self.check_none((claim[0], wrong) + claim[2:])

    def test_wrong_turners(self):
        for word in ALL_WORDS:
            for wrong in wrong_lists(EIGHT, 13):
                if first_word(word) == "inner":
                    self.check_none((word, EIGHT, wrong, [1, 1]))
                    self.check_none((word, EIGHT, [1, 1], wrong))
                if first_word(word) in ("full", "whole"):
                    self.check_none((word, EIGHT, wrong))

    def test_nought(self):
        for nought in ([], (), [0], (0, 0), [0] * 13):
            for word in ("inner", "notinner"):
                self.check_none((word, EIGHT, [1], nought))
                self.assertIs(is_claim((word, EIGHT, nought, [1])), True)
            for word in ("full", "notfull", "whole", "apart"):
                self.check_none((word, EIGHT, nought))

    def test_degrees_of_whole_ones(self):
        for many in range(13):
            for word in ("whole", "apart"):
                claim = (word, EIGHT, [0] * many + [1] + [0] * (12 - many))
                if 1 <= many <= 3:
                    self.assertIs(is_claim(claim), True)
                else:
                    self.check_none(claim)

    def test_wrong_lists_elements_and_words(self):
        for wrong in wrong_lists(EIGHT, 12):
            self.check_none(("free", EIGHT, wrong))
            self.check_none(("tied", EIGHT, wrong))
        for wrong in wrong_ones(EIGHT):
            for word in ("like", "unlike"):
                self.check_none((word, EIGHT, wrong, 1))
                self.check_none((word, EIGHT, 1, wrong))
        for wrong in wrong_lists(EIGHT, 3) + [[], (), [1, 1], [1] * 4]:
            self.check_none(("near", BOOK, wrong))
            self.check_none(("far", BOOK, wrong))

    def test_elements_of_another_field(self):
        self.assertIs(is_claim(("like", NINE, 8, 8)), True)
        self.check_none(("like", EIGHT, 8, 8))
        self.check_none(("full", EIGHT, [8]))
        self.check_none(("near", Book(EIGHT, [1], 1), [8]))


class ContraryTest(unittest.TestCase):
    def test_all(self):
        for claim in all_claims():
            found = contrary(claim)
            self.assertTrue(alike(found, (other_word(claim[0]),) + claim[1:]))
            for one, other in zip(found[1:], claim[1:]):
                self.assertTrue(alike(one, other))
            check_new(self, found, [claim])
            self.assertEqual(contrary(found), claim)

    def test_what_is_changed_later(self):
        row = [1, 2]
        found = contrary(("free", EIGHT, row))
        row[0] = 5
        found[2].append(6)
        self.assertEqual([row, contrary(("tied", EIGHT, (1, 2)))[2]], [[5, 2], (1, 2)])

    def test_noughts_stay(self):
        self.assertEqual(contrary(("inner", EIGHT, (1, 0), [1, 0, 0])), ("notinner", EIGHT, (1, 0), [1, 0, 0]))

    def test_by_name(self):
        check_named(self, contrary, ["claim"], [("like", EIGHT, 1, 2)], ("unlike", EIGHT, 1, 2))


class TruthTest(unittest.TestCase):
    def check_truth(self, parts, word, expected):
        """Just one of a claim and its contrary is true; it alone has papers, if its word has some."""
        papers = []
        for claim, right in (((word,) + parts, expected), ((other_word(word),) + parts, not expected)):
            self.assertIs(is_true(claim), right, claim)
            paper = paper_of(claim)
            if not right or claim[0] in WITHOUT:
                self.assertIsNone(paper, claim)
            else:
                self.assertTrue(plain_is_paper(claim, paper), (claim, paper))
                self.assertIs(is_paper_of(claim, paper), True, (claim, paper))
                papers.append(paper)
                check_new(self, paper, [claim, paper_of(claim)])
        for paper in papers + ANY[:12]:
            held = [is_paper_of((side,) + parts, paper) for side in (word, other_word(word))]
            self.assertLessEqual(sum(held), 1)
            self.assertFalse(held[0] and not expected)
            self.assertFalse(held[1] and expected)

    def test_inner(self):
        turners = [list(turner) for many in range(4) for turner in product(range(4), repeat=many)]
        multiples = {}
        for other in turners[1:21]:
            if any(other):
                multiples[tuple(other)] = [plain_put(FOUR, turner, other) for turner in turners]
        for other, found in multiples.items():
            for turner in turners[::3]:
                if len(turner) <= 3:
                    self.check_truth((FOUR, turner, other), "inner", plain_told_turner(turner) in found)
        for field in FIELDS:
            for turner in turners_of(field, 3, 2):
                for other in turners_of(field, 2, 4)[2:]:
                    inner = divided_in(field, turner, other)[1] == []
                    self.check_truth((field, tuple(turner), other), "inner", inner)

    def test_great_degrees(self):
        for field in (EIGHT, NINE):
            other = [3, 1, 0, 0, 5, 1]
            turner = plain_put(field, [1, 2, 0, 1, 0, 0, 0, 1], other)
            self.assertEqual(len(turner), 13)
            self.check_truth((field, turner, other), "inner", True)
            self.check_truth((field, turner[:12] + [2 if turner[12] == 1 else 1], other), "inner", False)

    def test_full(self):
        for field in (FOUR, EIGHT, NINE, SIXTEEN):
            for turner in turners_of(field, 4, 3) + [[field.prime - 1] + [0] * (field.turns - 1) + [1]]:
                if any(turner):
                    degree = len(plain_told_turner(turner)) - 1
                    roots = [one for one in range(field.size) if plain_worth(field, turner, one) == 0]
                    self.check_truth((field, turner), "full", len(roots) == field.prime ** degree)

    def test_like(self):
        for field in (FOUR, EIGHT, NINE, TWENTYFIVE):
            factors = [plain_power(field, one, field.prime - 1) for one in range(1, field.size)]
            for one in range(0, field.size, 1 + field.size // 9):
                for other in range(0, field.size, 1 + field.size // 12):
                    like = any(plain_times(field, one, factor) == other for factor in factors)
                    self.check_truth((field, one, other), "like", like)

    def test_near(self):
        for field, points, many in SMALL_BOOKS:
            plain = PlainBook(field, points, many)
            for word in plain.all_words[::1 + len(plain.all_words) // 40]:
                self.check_truth((plain.book, word), "near", plain.near(word, plain.book.reach) != [])
        for field in FIELDS:
            for book in books_of(field)[::3]:
                self.check_truth((book, word_of(book, sample(field, book.many, 3))), "near", True)

    def test_free(self):
        for field in FIELDS:
            for many in range(13):
                for start in (1, 2):
                    some = sample(field, many, start)
                    self.check_truth((field, some), "free", plain_rank(field, some) == many)
            units = tuple(field.prime ** at for at in range(field.turns))
            self.check_truth((field, units), "free", True)
            self.check_truth((field, units + (field.size - 1,)), "free", False)
            self.check_truth((field, [0]), "free", False)
            self.check_truth((field, [1, 2 % field.prime or 1]), "free", False)
        for some in product(range(8), repeat=3):
            self.check_truth((EIGHT, some), "free", plain_rank(EIGHT, some) == 3)

    def test_whole(self):
        for field, most in ((FOUR, 3), (EIGHT, 2), (NINE, 2)):
            lists = {many: [list(row) + [1] for row in product(range(field.size), repeat=many)]
                     for many in range(1, most + 1)}
            apart = []
            for many in range(1, most):
                for one in lists[1]:
                    for other in lists[many]:
                        apart += [plain_put(field, one, other), plain_put(field, other, one)]
            for many in range(1, most + 1):
                for turner in lists[many][::1 + len(lists[many]) // 60]:
                    for factor in (1, field.size - 1):
                        # An element but 0 times a turn sum is apart just if that is.
                        scaled = [plain_times(field, factor, one) for one in turner]
                        self.check_truth((field, scaled), "whole", turner not in apart)

    def test_degree_three(self):
        for field in (EIGHT, NINE, TWENTYSEVEN):
            for start in range(6):
                outer = plain_told_turner(sample(field, 2, start)) or [1]
                turner = plain_put(field, outer + [1], sample(field, 2, start + 4) + [1])
                if 1 <= len(turner) - 1 <= 3 and len(outer) > 0:
                    self.check_truth((field, turner), "whole", False)

    def test_degree_one(self):
        for field in FIELDS:
            for one in (0, 1, field.size - 1):
                self.check_truth((field, [one, field.size - 1, 0]), "whole", True)


def plain_is_paper(claim, paper):
    """Whether a value that has the right kind is a paper of a claim, by the table of point 93."""
    word, field, rest = claim[0], claim[1], claim[2:]
    if word == "inner":
        return plain_put(field, paper, rest[1]) == plain_told_turner(rest[0])
    if word == "notinner":
        quotient, left = paper
        fit = left != [] and len(plain_told_turner(left)) < len(plain_told_turner(rest[1]))
        total = plain_sum(field, plain_put(field, quotient, rest[1]), left)
        return type(paper) is tuple and fit and total == plain_told_turner(rest[0])
    if word == "full":
        fit = len(paper) == len(plain_told_turner(rest[0])) - 1 == plain_rank(field, paper)
        return fit and all(plain_worth(field, rest[0], one) == 0 for one in paper)
    if word == "like":
        return paper != 0 and plain_times(field, rest[0], plain_power(field, paper, field.prime - 1)) == rest[1]
    if word == "near":
        lacks = [plain_plus(field.field(), one, plain_worth(field.field(), paper, point), -1)
                 for one, point in zip(rest[0], field.points())]
        return len(plain_told_turner(paper)) <= field.many and plain_rank(field.field(), lacks) <= field.reach
    if word == "far":
        return is_pair(field, rest[0], paper)
    if word == "tied":
        total = 0
        for figure, one in zip(paper, rest[0]):
            total = plain_plus(field, total, plain_times(field, figure, one))
        fit = len(paper) == len(rest[0]) and any(paper) and all(0 <= figure < field.prime for figure in paper)
        return fit and total == 0
    fit = min(len(plain_told_turner(part)) for part in paper) >= 2
    return fit and type(paper) is tuple and plain_put(field, paper[0], paper[1]) == plain_told_turner(rest[0])


class PapersTest(unittest.TestCase):
    CLAIMS = [
        ("inner", EIGHT, [1, 1, 1], [2, 1]), ("inner", EIGHT, [], (3, 1)), ("inner", NINE, (4, 5), [7]),
        ("notinner", EIGHT, [1, 1, 1], [1, 1]), ("notinner", NINE, [5, 1], [0, 0, 1]), ("full", EIGHT, [1, 1, 1]),
        ("full", NINE, [4]), ("full", EIGHT, (1, 0, 0, 1)), ("like", EIGHT, 2, 5), ("like", NINE, 1, 2),
        ("like", NINE, 0, 0), ("near", BOOK, [2, 6, 6]), ("near", Book(NINE, [1, 3], 2), (5, 7)),
        ("far", BOOK, [1, 4, 6]), ("far", Book(EIGHT, [1, 2, 4], 2), [1, 1, 2]), ("tied", EIGHT, [1, 2, 3, 3]),
        ("tied", NINE, (0,)), ("tied", NINE, [4, 8]), ("apart", EIGHT, [0, 0, 1]), ("apart", EIGHT, (1, 1, 1)),
        ("apart", NINE, [0, 0, 0, 2]),
    ]

    def test_with_noughts_and_as_tuples(self):
        for claim in self.CLAIMS:
            paper = paper_of(claim)
            self.assertIs(is_paper_of(claim, paper), True)
            if claim[0] in ("inner", "near"):
                for value in (tuple(paper), paper + [0], paper + [0] * (13 - len(paper)), tuple(paper) + (0, 0)):
                    self.assertIs(is_paper_of(claim, value), True)
                self.assertIs(is_paper_of(claim, paper + [0] * (14 - len(paper))), False)
            if claim[0] in ("full", "tied"):
                self.assertIs(is_paper_of(claim, tuple(paper)), True)
            if claim[0] in ("notinner", "far", "apart"):
                for value in ((tuple(paper[0]), paper[1] + [0]), (paper[0] + [0, 0], tuple(paper[1]) + (0,))):
                    self.assertIs(is_paper_of(claim, value), True, (claim, value))
                for value in (list(paper), paper + ([1],), paper[:1], paper[::-1] + ([0],), (paper,), [paper]):
                    self.assertIs(is_paper_of(claim, value), False, (claim, value))

    def test_one_thing_changed(self):
        for claim in self.CLAIMS:
            paper = paper_of(claim)
            for value in changed(paper):
                right = self.is_right_kind(claim, value) and plain_is_paper(claim, value)
                self.assertIs(is_paper_of(claim, value), right, (claim, value))

    def is_right_kind(self, claim, value):
        """Whether a changed paper has elements of the field alone, and lists where they belong."""
        field = claim[1].field() if isinstance(claim[1], Book) else claim[1]
        if claim[0] == "like":
            return type(value) is int and 0 < value < field.size
        rows = value if isinstance(value, tuple) and claim[0] in ("notinner", "far", "apart") else [value]
        if claim[0] in ("notinner", "far", "apart") and (type(value) is not tuple or len(value) != 2):
            return False
        for row in rows:
            if type(row) is not list or not all(type(one) is int and 0 <= one < field.size for one in row):
                return False
        return True

    def test_any_value(self):
        for claim in self.CLAIMS + all_claims():
            for value in ANY + [claim, list(claim), [paper_of(claim)], (paper_of(claim),), is_claim]:
                found = is_paper_of(claim, value)
                self.assertIs(type(found), bool)
                if value is None or isinstance(value, (bool, str, bytes, dict)) or value in (-1, GREAT, EIGHT, BOOK):
                    self.assertIs(found, False)
                if found:
                    self.assertIs(is_true(claim), True, (claim, value))

    def test_words_without_papers(self):
        for claim in all_claims():
            if claim[0] in WITHOUT:
                self.assertIsNone(paper_of(claim))
                for value in ANY + [paper_of(contrary(claim)), [1, 2], [1, 2, 4]]:
                    self.assertIs(is_paper_of(claim, value), False)

    def test_all_tied_figures(self):
        for some in ([1, 2, 3], [0, 4], [5, 5, 2, 2]):
            for value in product(range(2), repeat=len(some)):
                total = plain_mixtures(EIGHT, some)[int("".join(map(str, value)), 2)]
                self.assertIs(is_paper_of(("tied", EIGHT, some), value), any(value) and total == 0)
        self.assertIs(is_paper_of(("tied", EIGHT, [1, 2, 3]), [3, 3, 3]), False)

    def test_all_lists_of_roots(self):
        for value in product(range(8), repeat=2):
            right = plain_rank(EIGHT, value) == 2 and set(value) <= {2, 4, 6}
            self.assertIs(is_paper_of(("full", EIGHT, [1, 1, 1]), value), right)
        self.assertIs(is_paper_of(("full", EIGHT, [1, 1, 1]), [2]), False)
        self.assertIs(is_paper_of(("full", EIGHT, [1, 1, 1]), [2, 4, 6]), False)
        self.assertIs(is_paper_of(("full", EIGHT, [5]), []), True)
        self.assertIs(is_paper_of(("full", EIGHT, [1, 1, 0, 1]), []), False)

    def test_too_great_degrees(self):
        for value in ([0] * 12 + [1], [1] * 13):
            self.assertIs(is_paper_of(("inner", EIGHT, [1, 1, 1], [2, 1]), value), False)
            self.assertIs(is_paper_of(("inner", EIGHT, [], [2, 1]), value), False)
            self.assertIs(is_paper_of(("notinner", EIGHT, [1, 1, 1], [1, 1]), (value, [1])), False)
            self.assertIs(is_paper_of(("apart", EIGHT, [0, 0, 1]), (value, [0, 1])), False)
            self.assertIs(is_paper_of(("apart", EIGHT, [0, 0, 1]), ([0, 1], value)), False)
            self.assertIs(is_paper_of(("near", BOOK, [3, 6, 7]), value), False)
            self.assertIs(is_paper_of(("far", BOOK, [1, 4, 6]), (value, value)), False)

    def test_rests_that_are_none(self):
        claim = ("notinner", EIGHT, [1, 1, 1], [1, 1])
        for quotient, rest in (([0, 1], [1]), ([1, 1], [0, 1]), ([2, 1], [3, 2]), ([], [1, 1, 1])):
            # All of these make the turn sum together, but just one rest is of a lesser degree than the other one.
            self.assertEqual(plain_sum(EIGHT, plain_put(EIGHT, quotient, [1, 1]), rest), [1, 1, 1])
            self.assertIs(is_paper_of(claim, (quotient, rest)), rest == [1])

    def test_degree_nought_parts(self):
        for value in (([1], [0, 0, 1]), ([0, 0, 1], [1]), ([0, 0, 1], [1, 0]), ([1, 0, 0], [0, 0, 1])):
            self.assertIs(is_paper_of(("apart", EIGHT, [0, 0, 1]), value), False)

    def test_by_position_and_by_name(self):
        claim = ("inner", EIGHT, [1, 1, 1], (2, 1))
        check_named(self, paper_of, ["claim"], [claim], [5, 1])
        check_named(self, is_true, ["claim"], [claim], True)
        check_named(self, is_paper_of, ["claim", "value"], [claim, [5, 1]], True)
        check_named(self, is_paper_of, ["claim", "value"], [claim, (5, 1, 0)], True)
        check_named(self, is_claim, ["value"], [claim], True)
        check_named(self, paper_of, ["claim"], [("notinner", EIGHT, [1, 1, 1], [1, 1])], ([0, 1], [1]))
        check_named(self, is_paper_of, ["claim", "value"], [("apart", EIGHT, [0, 0, 1]), ([0, 1], (0, 1))], True)
        self.assertIs(is_claim(("like", OTHER_EIGHT, 1, 1)), True)


def changed(paper):
    """Values that are a paper but for one thing."""
    if isinstance(paper, int):
        return [0, paper + 1, paper - 1, -paper, [paper], (paper,), str(paper), True, None] + list(range(1, 9))
    found = []
    for at, one in enumerate(paper):
        found += [paper[:at] + paper[at + 1:]]
        found += [paper[:at] + type(paper)([value]) + paper[at + 1:] for value in changed(one)]
    if isinstance(paper, list):
        return found + [paper + [0], paper + [1], [0] + paper, [1] + paper, paper[::-1], paper + paper, [paper]]
    return found + [paper + paper, list(paper), paper[::-1]]


if __name__ == "__main__":
    unittest.main()
