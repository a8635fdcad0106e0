"""What the tests share: fields, wrong values of all kinds, and a reckoning of its own to compare with."""

import copy
from itertools import product

from turnpowers.books import Book
from turnpowers.fields import Field
from turnpowers.spaces import Space

MODULI = [
    (2, [1, 1, 1]),
    (2, [1, 1, 0, 1]),
    (2, [1, 0, 1, 1]),
    (2, [1, 1, 0, 0, 1]),
    (2, [1, 1, 1, 1, 1]),
    (2, [1, 0, 1, 0, 0, 1]),
    (2, [1, 1, 0, 0, 0, 0, 1]),
    (2, [1, 1, 0, 0, 0, 0, 0, 1]),
    (3, [1, 0, 1]),
    (3, [2, 1, 1]),
    (3, [1, 2, 0, 1]),
    (3, [2, 1, 0, 0, 1]),
    (5, [2, 0, 1]),
    (5, [1, 1, 0, 1]),
    (7, [1, 0, 1]),
]

FIELDS = [Field(prime, modulus) for prime, modulus in MODULI]
FOUR, EIGHT, OTHER_EIGHT, SIXTEEN = FIELDS[:4]
NINE, OTHER_NINE, TWENTYSEVEN, EIGHTYONE = FIELDS[8:12]
TWENTYFIVE, FORTYNINE, BIG = FIELDS[12], FIELDS[14], FIELDS[7]

GREAT = 10 ** 30 - 1

WRONG_FIELDS = [None, True, False, 2, -1, "field 2 1 1 1\n", "", [2, [1, 1, 1]], (2, [1, 1, 1]), [], {}, Field]
WRONG_PRIMES = [None, True, False, 0, 1, -2, 4, 6, 8, 9, 11, 13, 100, GREAT, "2", "", [2], (2,), [], {}, EIGHT]

WRONG_SPACES = [None, True, False, 0, 1, -1, GREAT, "", "space 1\n", [1, 2], (1,), [], {}, EIGHT, (EIGHT, [1])]


WRONG_BOOKS = [None, True, False, 0, 1, -1, GREAT, "", "book 1 1\n", [1, 2], (1,), [], {}, EIGHT, Space(EIGHT, [1])]
WRONG_BOOKS += [Book, (EIGHT, [1, 2], 1), [EIGHT, (1,), 1]]


def wrong_ones(field):
    """Values that are no elements of the field."""
    return [True, False, None, -1, field.size, field.size + 1, GREAT, -GREAT, "1", "", "a", [1], (1,), [], {}, field]


def wrong_lists(field, most):
    """Values that are no lists of at most so many elements of the field."""
    ones = wrong_ones(field)
    found = [True, False, None, 0, 1, -1, GREAT, "1", "", "12", {}, {1: 1}, field, [1] * (most + 1)]
    found += [(1,) * (most + 1), [0] * (most + 1), [1] * 100]
    return found + [[one] for one in ones] + [(1, one) for one in ones] + [[one, 1] for one in ones]


def wrong_manys(most):
    """Values that are no COUNTS of at most so many."""
    return [True, False, None, -1, most + 1, GREAT, -GREAT, "1", "", [1], (0,), [], {}, EIGHT]


def alike(one, other):
    """Whether both are of one kind and equal."""
    return type(one) is type(other) and one == other


def check_error(case, error, attributes, call, *values, **named):
    """The call raises just this error, with these attributes."""
    with case.assertRaises(error) as caught:
        call(*values, **named)
    case.assertIs(type(caught.exception), error)
    for name, value in attributes.items():
        case.assertTrue(alike(getattr(caught.exception, name), value), (name, value, caught.exception))


def check_wrong(case, function, rows):
    """Each wrong value of each parameter raises its error, whatever stands behind it, by position and by name.

    A row is a name, a good value, a list of wrong values and their error.
    """
    names = [name for name, _, _, _ in rows]
    goods = [good for _, good, _, _ in rows]
    for at, (_, _, wrongs, error) in enumerate(rows):
        worst = [wrong[-1] if wrong else good for _, good, wrong, _ in rows[at + 1:]]
        for wrong in wrongs:
            for behind in (goods[at + 1:], worst):
                values = goods[:at] + [wrong] + behind
                with case.subTest(function=function.__name__, values=values):
                    check_error(case, error, {"value": wrong}, function, *values)
                    check_error(case, error, {"value": wrong}, function, **dict(zip(names, values)))


def check_named(case, function, names, values, found):
    """The call tells the same by position and by the names, changes nothing, and tells new lists each time."""
    before = copy.deepcopy(values)
    first, second = function(*values), function(**dict(zip(names, values)))
    case.assertTrue(alike(first, found), (function.__name__, values, first))
    case.assertTrue(alike(second, found), (function.__name__, values, second))
    for value, old in zip(values, before):
        case.assertTrue(alike(value, old), (function.__name__, value, old))
    check_new(case, first, [second] + list(values))


def lists_in(value):
    """All lists in a value, itself among them."""
    found = [value] if isinstance(value, list) else []
    if isinstance(value, (list, tuple)):
        for one in value:
            found += lists_in(one)
    return found


def check_new(case, value, others):
    """No list in the value is one in the others."""
    for one in lists_in(value):
        for other in lists_in(others):
            case.assertIsNot(one, other)


def sample(field, many, start):
    """A list of so many elements, another one for each start."""
    return [(start * 37 + at * 11 + at * at * 5 + start * at * 3) % field.size for at in range(many)]


def plain_figures(field, one):
    """The figures of an element, reckoned here."""
    return [one // field.prime ** at % field.prime for at in range(field.turns)]


def plain_told(field, figures):
    """The element with the figures, reckoned here."""
    return sum(figure * field.prime ** at for at, figure in enumerate(figures))


def plain_plus(field, one, other, sign=1):
    """The sum of two elements, figure by figure."""
    pairs = zip(plain_figures(field, one), plain_figures(field, other))
    return plain_told(field, [(figure + sign * beside) % field.prime for figure, beside in pairs])


def plain_minus(field, one, other):
    """The one less the other one, figure by figure."""
    return plain_plus(field, one, other, -1)


def plain_times(field, one, other):
    """The product of two elements, as polynomials, less multiples of the modulus from the top down."""
    modulus, turns = field.modulus(), field.turns
    sums = [0] * (2 * turns)
    for at, figure in enumerate(plain_figures(field, one)):
        for beside, factor in enumerate(plain_figures(field, other)):
            sums[at + beside] += figure * factor
    for top in range(2 * turns - 1, turns - 1, -1):
        for at, number in enumerate(modulus[:-1]):
            sums[top - turns + at] -= sums[top] * number
        sums[top] = 0
    return plain_told(field, [number % field.prime for number in sums[:turns]])


def plain_power(field, one, many):
    """The element many times as a factor."""
    found = 1
    for _ in range(many):
        found = plain_times(field, found, one)
    return found


def plain_turned(field, one, many):
    """The element, the prime times as a factor, many times one behind another."""
    for _ in range(many):
        one = plain_power(field, one, field.prime)
    return one


def plain_mixtures(field, some):
    """The sums of the elements, each times a base figure, in all ways; as many as there are ways."""
    found = [0]
    for one in some:
        multiples = [plain_times(field, figure, one) for figure in range(field.prime)]
        found = [plain_plus(field, total, multiple) for total in found for multiple in multiples]
    return found


def plain_worth(field, turner, one):
    """The worth of a turn sum at an element."""
    total = 0
    for at, part in enumerate(turner):
        total = plain_plus(field, total, plain_times(field, part, plain_turned(field, one, at)))
    return total


def plain_told_turner(turner):
    """The turn sum without noughts at its end."""
    found = list(turner)
    while found and found[-1] == 0:
        found = found[:-1]
    return found


def plain_put(field, turner, other):
    """The turn sum of the other one, by the sums of point 22."""
    sums = [0] * 25
    for at, one in enumerate(turner):
        for beside, part in enumerate(other):
            product_of = plain_times(field, one, plain_turned(field, part, at % field.turns))
            sums[at + beside] = plain_plus(field, sums[at + beside], product_of)
    return plain_told_turner(sums)


def plain_sum(field, turner, other, sign=1):
    """The sum of two turn sums, element by element; with the sign -1, what is left of the one."""
    pairs = zip(list(turner) + [0] * 25, list(other) + [0] * (25 - len(other)))
    return plain_told_turner([plain_plus(field, one, beside, sign) for one, beside in pairs])


def turners_of(field, many, start):
    """Turn sums of the degrees -1, 0, .., below many, some with noughts among and behind their elements."""
    found = [[], [0, 0]]
    for length in range(1, many + 1):
        row = sample(field, length - 1, start + length) + [1 + (start + length) % (field.size - 1)]
        found.append(row)
        found.append([0] * (length // 2) + row[length // 2:])
    return found + [found[2] + [0, 0], [0] * (many - 1) + [1]]


def wrong_words(book):
    """Values that are no lists of as many elements as the book has points."""
    long, field = book.length, book.field()
    found = wrong_lists(field, long) + [[], (), [1] * (long - 1), (0,) * (long - 1), [0] * (long + 1)]
    return found + [[0] * (long - 1) + [one] for one in wrong_ones(field)]


def wrong_let(book):
    """Values that are no turn sums of a degree below the book's many."""
    field, many = book.field(), book.many
    found = [[0] * many + [1], (1,) * (many + 1), [0] * 12 + [1], [0] * many + [field.size - 1, 0]]
    return found + [[0] * 14] + wrong_lists(field, 13)


def plain_rank(field, some):
    """How many of some elements are free at most: from all of their mixtures, reckoned figure by figure."""
    rows = [plain_figures(field, one) for one in some]
    found = 0
    for at in range(field.turns):
        ahead = [row for row in rows if row[at] != 0]
        if ahead:
            first = ahead[0]
            found += 1
            rest = [row for row in rows if row[at] == 0] + ahead[1:]
            rows = [plain_cleared(field, row, first, at) for row in rest]
    return found


def plain_cleared(field, row, first, at):
    """The row of figures less the multiple of the first one that has the same figure at a place."""
    factor = row[at] * pow(first[at], -1, field.prime)
    return [(figure - factor * other) % field.prime for figure, other in zip(row, first)]


class PlainBook:
    """All words of a small book, and of its length, by worths that are reckoned here."""

    def __init__(self, field, points, many):
        self.field, self.points, self.many = field, list(points), many
        self.book = Book(field, points, many)
        self.minus = [[plain_minus(field, one, other) for other in range(field.size)] for one in range(field.size)]
        self.all_words = list(product(range(field.size), repeat=len(points)))
        self.ranks = {word: plain_rank(field, word) for word in self.all_words}
        self.turners = {self.word(turner): plain_told_turner(turner)
                        for turner in product(range(field.size), repeat=many)}

    def word(self, turner):
        """The word of a turn sum."""
        return tuple(plain_worth(self.field, turner, point) for point in self.points)

    def differences(self, word, other):
        """The one less the other one, place by place."""
        return tuple(self.minus[one][beside] for one, beside in zip(word, other))

    def near(self, word, most):
        """The turn sums of all words of the book that are off in at most so many directions."""
        return [turner for other, turner in self.turners.items()
                if self.ranks[self.differences(word, other)] <= most]


SMALL_BOOKS = [
    (FOUR, [1, 2], 1), (FOUR, [3, 1], 2), (FOUR, [2], 1), (EIGHT, [1, 2, 4], 1), (EIGHT, [6, 3, 4], 2),
    (EIGHT, [5, 1, 3], 3), (EIGHT, [7, 2], 1), (EIGHT, [4], 1), (OTHER_EIGHT, [3, 4, 6], 1), (NINE, [1, 3], 1),
    (NINE, [5, 1], 2), (OTHER_NINE, [4, 2], 1), (SIXTEEN, [1, 9, 6], 1), (TWENTYFIVE, [7, 3], 1),
]


def free_lots(field):
    """Some lists of free elements of all lengths from one to the turns."""
    units = [field.prime ** at for at in range(field.turns)]
    lots = [units[:many] for many in range(1, field.turns + 1)] + [units[::-1]]
    lots += [sample(field, many, start) for many in range(1, field.turns + 1) for start in range(1, 9)]
    return [some for some in lots if plain_rank(field, some) == len(some)]


def moved_units(field, many, factor):
    """So many free elements: those with one figure alone, 1, each times a factor."""
    return [plain_times(field, factor, field.prime ** at) for at in range(many)]


def books_of(field):
    """Some books of the field, of all lengths and manys."""
    lots = [moved_units(field, many, field.size - 1) for many in range(1, field.turns + 1)]
    lots.append(moved_units(field, field.turns, 1)[::-1])
    return [Book(field, points, many) for points in lots for many in range(1, len(points) + 1)]
