"""The errors of the package, each with its attributes set from what it is made with."""


class TurnError(ValueError):
    """A value that is not of the kind, or not within the bounds, that its place wants."""


class InvalidBook(TurnError):
    """The value is no Book."""

    def __init__(self, value):
        self.value = value


class InvalidElement(TurnError):
    """The value is no element of the field."""

    def __init__(self, value):
        self.value = value


class InvalidElements(TurnError):
    """The value is no list of elements of the field, or of the wrong length."""

    def __init__(self, value):
        self.value = value


class InvalidField(TurnError):
    """The value is no Field."""

    def __init__(self, value):
        self.value = value


class InvalidMany(TurnError):
    """The value is no COUNT, or out of its bounds."""

    def __init__(self, value):
        self.value = value


class InvalidSpace(TurnError):
    """The value is no Space."""

    def __init__(self, value):
        self.value = value


class InvalidTurner(TurnError):
    """The value is no turn sum over the field."""

    def __init__(self, value):
        self.value = value


class InvalidWord(TurnError):
    """The value is no word of the wanted length."""

    def __init__(self, value):
        self.value = value


class InvalidClaim(TurnError):
    """The value is no claim."""

    def __init__(self, value):
        self.value = value


class InvalidCommand(TurnError):
    """The value is no command."""

    def __init__(self, value):
        self.value = value


class InvalidFigures(TurnError):
    """The value is no list of as many base figures as wanted."""

    def __init__(self, value):
        self.value = value


class InvalidLines(TurnError):
    """The lines are no list, or the one at the position is no deed."""

    def __init__(self, position):
        self.position = position


class InvalidModulus(TurnError):
    """The value is no modulus over the prime."""

    def __init__(self, value):
        self.value = value


class InvalidPaper(TurnError):
    """The value is no paper of the claim, nor of its contrary."""

    def __init__(self, value):
        self.value = value


class InvalidPoints(TurnError):
    """The value is no list of free elements of the wanted length."""

    def __init__(self, value):
        self.value = value


class InvalidPosition(TurnError):
    """The value is no position in the word."""

    def __init__(self, value):
        self.value = value


class InvalidPrime(TurnError):
    """The value is none of the four primes."""

    def __init__(self, value):
        self.value = value


class InvalidRows(TurnError):
    """The value is no table."""

    def __init__(self, value):
        self.value = value


class InvalidSort(TurnError):
    """The value is no word of a sort."""

    def __init__(self, value):
        self.value = value


class InvalidTable(TurnError):
    """The value is no map table."""

    def __init__(self, value):
        self.value = value


class InvalidText(TurnError):
    """The text is no written form; the line is the first wrong one."""

    def __init__(self, line):
        self.line = line


class InvalidValue(TurnError):
    """The value is none of the sort."""

    def __init__(self, value):
        self.value = value


class MissingError(LookupError):
    """A label or a name under which nothing of the wanted kind is kept."""


class UnknownLabel(MissingError):
    """Nothing is noted under the value."""

    def __init__(self, value):
        self.value = value


class UnknownName(MissingError):
    """Nothing of the wanted kind is kept under the value."""

    def __init__(self, value):
        self.value = value


class StateError(RuntimeError):
    """Something that cannot be done as things are."""


class CommandFailed(StateError):
    """The command at the position failed."""

    def __init__(self, position):
        self.position = position


class DividedByNought(StateError):
    """The divisor is 0."""


class LabelTaken(StateError):
    """Something is noted under the label."""

    def __init__(self, label):
        self.label = label


class NameTaken(StateError):
    """Something is kept under the name."""

    def __init__(self, name):
        self.name = name


class NotNear(StateError):
    """No word of the book is within reach."""


class NotSquare(StateError):
    """The table has not as many rows as numbers in a row."""


class NothingToRedo(StateError):
    """No deed can be done again."""


class NothingToUndo(StateError):
    """No deed can be taken back."""


class NoughtTurner(StateError):
    """The turn sum is nought where none may be."""


class UnlikeFields(StateError):
    """The things are of unlike fields."""


class LimitError(ArithmeticError):
    """Something that would be larger than the program tells."""


class TooMany(LimitError):
    """There are more of what is told than the limit."""

    def __init__(self, what, limit):
        self.what = what
        self.limit = limit
