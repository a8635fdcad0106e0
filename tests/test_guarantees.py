"""Point 4: what holds over the whole program, in small fields tried out whole."""

import unittest
from itertools import product

from tests.helpers import (
    EIGHT, FOUR, NINE, OTHER_EIGHT, SIXTEEN, SMALL_BOOKS, TWENTYSEVEN, PlainBook, plain_put, plain_rank, plain_sum,
    plain_told_turner,
)
from turnpowers.books import least_off, off
from turnpowers.claims import is_paper_of, is_true, paper_of
from turnpowers.desk import Desk
from turnpowers.division import divided_in, divided_out
from turnpowers.elements import norm
from turnpowers.lots import chain_count, space_chains, space_count, spaces_of
from turnpowers.mended import is_far_pair, mended, solved_pair
from turnpowers.ranks import rank_row
from turnpowers.readers import read
from turnpowers.roots import is_full, roots, space_turner
from turnpowers.texts import written
from turnpowers.ways import ways


def all_turners(field, most):
    """All turn sums of a degree up to this one, told."""
    return [plain_told_turner(row) for row in product(range(field.size), repeat=most + 1)]


class DivisionTest(unittest.TestCase):
    def test_just_one_way_from_either_side(self):
        turners = all_turners(FOUR, 1)
        for other in turners:
            if other == []:
                continue
            inner, outer = {}, {}
            for quotient in turners:
                for rest in turners:
                    if len(rest) < len(other):
                        ahead = tuple(plain_sum(FOUR, plain_put(FOUR, quotient, other), rest))
                        behind = tuple(plain_sum(FOUR, plain_put(FOUR, other, quotient), rest))
                        inner.setdefault(ahead, []).append((quotient, rest))
                        outer.setdefault(behind, []).append((quotient, rest))
            for found, divide in ((inner, divided_in), (outer, divided_out)):
                for turner, told in found.items():
                    self.assertEqual(told, [divide(FOUR, list(turner), other)])
                self.assertEqual(len(found), 4 ** (len(other) + 1))


class SpacesTest(unittest.TestCase):
    def test_just_one_turn_sum(self):
        for field, most in ((FOUR, 2), (EIGHT, 3), (OTHER_EIGHT, 2), (NINE, 2)):
            for many in range(most + 1):
                spaces = spaces_of(field, many)
                self.assertEqual(len(spaces), space_count(field, many))
                monic = [list(row) + [1] for row in product(range(field.size), repeat=many)]
                full = [turner for turner in monic if is_full(field, turner)]
                self.assertEqual(sorted(space_turner(space) for space in spaces), sorted(full))
                for turner in full:
                    self.assertEqual([space for space in spaces if space == roots(field, turner)], [roots(field, turner)])
                    self.assertEqual(space_turner(roots(field, turner)), turner)


class ChainsTest(unittest.TestCase):
    def test_as_many_ways_as_chains(self):
        for field in (FOUR, EIGHT, NINE, SIXTEEN, TWENTYSEVEN):
            for many in range(min(field.turns, 3) + 1):
                for space in spaces_of(field, many)[:20]:
                    found = ways(field, space_turner(space))
                    self.assertEqual(len(found), chain_count(field.prime, many))
                    self.assertEqual(len(space_chains(space)), len(found))

    def test_like_parts(self):
        for field in (FOUR, EIGHT, NINE, TWENTYSEVEN):
            for row in ([1, 1, 1], [2, 1, 3, 1], [0, 2, 1], [0, 0, 1], [1, 0, 1], [1, 0, 0, 1]):
                lots = {tuple(sorted((one != 0, norm(field, one)) for one in way)) for way in ways(field, row)}
                self.assertLessEqual(len(lots), 1)


class BooksTest(unittest.TestCase):
    def test_far_apart(self):
        for field, points, many in SMALL_BOOKS:
            plain = PlainBook(field, points, many)
            ranks = [plain_rank(field, word) for word in plain.turners]
            self.assertEqual(rank_row(plain.book), [ranks.count(rank) for rank in range(len(points) + 1)])
            some = list(plain.turners)[::1 + len(plain.turners) // 16]
            for word in some:
                for other in some:
                    if word != other:
                        self.assertGreaterEqual(off(plain.book, word, other), least_off(plain.book))

    def test_mended_or_far(self):
        for field, points, many in SMALL_BOOKS:
            plain = PlainBook(field, points, many)
            for word in plain.all_words[::1 + len(plain.all_words) // 200]:
                found, pair = mended(plain.book, word), solved_pair(plain.book, word)
                self.assertEqual([found] if found is not None else [], plain.near(word, plain.book.reach))
                self.assertIs(is_far_pair(plain.book, word, pair), found is None)

    def test_papers_tell_all(self):
        for field, points, many in SMALL_BOOKS:
            plain = PlainBook(field, points, many)
            for word in plain.all_words[::1 + len(plain.all_words) // 30]:
                claims = [(side, plain.book, word) for side in ("near", "far")]
                self.assertEqual([is_true(claim) for claim in claims].count(True), 1)
                for claim in claims:
                    self.assertIs(paper_of(claim) is not None, is_true(claim))
                    self.assertIs(is_paper_of(claim, paper_of(claim)), is_true(claim))


class TogetherTest(unittest.TestCase):
    def test_a_desk_from_books_to_texts(self):
        desk = Desk()
        desk.do_all("field f 2 1,1,0,1", "book b f 1,2,4 1", "turner t f 3", "wordof w b t", "claim k near b w")
        for at in range(3):
            for one in range(8):
                answers = desk.attempt(f"change w {at} {one}", "mended m b w", "same m t", "state k", "told b w")
                self.assertEqual(answers[2:4], ["yes", "true"])
                self.assertEqual(answers[4], "yes" if str(one) == "367"[at] else "no")
        for name, sort in (("f", "field"), ("b", "book")):
            self.assertEqual(read(written(sort, desk[name])), (sort, desk[name]))
        for name, sort in (("t", "turner"), ("w", "elements")):
            value = (desk["f"], desk[name])
            self.assertEqual(read(written(sort, value)), (sort, value))
        self.assertEqual(desk.names, ["b", "f", "t", "w"])


if __name__ == "__main__":
    unittest.main()
