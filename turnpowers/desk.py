"""Desks: things kept under names and claims noted under labels, by deeds that can be taken back."""

from turnpowers.answers import answer
from turnpowers.basics import copied, is_list
from turnpowers.claims import contrary, is_paper_of
from turnpowers.commands import is_command, is_deed
from turnpowers.deeds import after
from turnpowers.errors import (
    CommandFailed, InvalidCommand, InvalidLines, InvalidPaper, LimitError, MissingError, NothingToRedo,
    NothingToUndo, StateError, TooMany, TurnError, UnknownLabel, UnknownName,
)
from turnpowers.moments import Moment, claim_now, told_changes
from turnpowers.things import is_under, value_of

MOST_DEEDS = 300


class Stand:
    """All that a desk has at one time; it and its parts are never changed, so that it can be taken up again.

    done and undone are lists of tuples of a deed's line and the moment ahead of it, or behind it; papers are tuples
    under labels: the claim's words, whether the paper is one of its contrary, and the paper.
    """

    def __init__(self, moment, done, undone, papers):
        self.moment = moment
        self.done = done
        self.undone = undone
        self.papers = papers


def behind_deed(stand, line):
    """What a desk has behind a deed."""
    moment = after(stand.moment, line.split(" "))
    if len(stand.done) >= MOST_DEEDS:
        raise TooMany("deeds", MOST_DEEDS)
    return Stand(moment, stand.done + [(line, stand.moment)], [], stand.papers)


def behind_undo(stand):
    """What a desk has when the last deed is taken back."""
    if len(stand.done) == 0:
        raise NothingToUndo()
    line, moment = stand.done[-1]
    return Stand(moment, stand.done[:-1], stand.undone + [(line, stand.moment)], stand.papers)


def behind_redo(stand):
    """What a desk has when the last deed that was taken back is done again."""
    if len(stand.undone) == 0:
        raise NothingToRedo()
    line, moment = stand.undone[-1]
    return Stand(moment, stand.done + [(line, stand.moment)], stand.undone[:-1], stand.papers)


def check_lines(value):
    """InvalidLines unless a list of deeds."""
    if not is_list(value):
        raise InvalidLines(None)
    for position, line in enumerate(value):
        if not is_deed(line):
            raise InvalidLines(position)


class Desk:
    """Names, labels, papers, and the deeds that made them."""

    def __init__(self):
        self._stand = Stand(Moment({}, {}, {}), [], [], {})

    @property
    def names(self):
        """The sorted list of the names of all things."""
        return sorted(self._stand.moment.things)

    @property
    def labels(self):
        """The sorted list of the labels of all claims."""
        return sorted(self._stand.moment.claims)

    def __len__(self):
        return len(self._stand.done)

    def __contains__(self, name):
        return is_under(self._stand.moment.things, name)

    def __getitem__(self, name):
        things = self._stand.moment.things
        if not is_under(things, name):
            raise UnknownName(name)
        return value_of(things[name])

    def __iter__(self):
        raise TypeError("a desk is not iterated over")

    def __call__(self, command):
        return self.do(command)

    def claim_of(self, label):
        """The claim under a label as a tuple; None while its state is gone."""
        moment = self._stand.moment
        if not is_under(moment.claims, label):
            raise UnknownLabel(label)
        return claim_now(moment, label)

    def do(self, command):
        """The answer to a command, behind what it does."""
        if not is_command(command):
            raise InvalidCommand(command)
        before = self._stand
        if command == "undo":
            self._stand = behind_undo(before)
            return before.done[-1][0]
        if command == "redo":
            self._stand = behind_redo(before)
            return before.undone[-1][0]
        if not is_deed(command):
            return answer(before.moment, command.split(" "))
        self._stand = behind_deed(before, command)
        return told_changes(before.moment, self._stand.moment)

    def do_all(self, *commands):
        """The list of the answers to some commands; all is as before if one fails."""
        before, answers = self._stand, []
        for position, command in enumerate(commands):
            try:
                answers.append(self.do(command))
            except (TurnError, MissingError, StateError, LimitError) as why:
                self._stand = before
                raise CommandFailed(position) from why
        return answers

    def attempt(self, *commands):
        """The list of the answers to some commands, with nothing done."""
        before = self._stand
        answers = self.do_all(*commands)
        self._stand = before
        return answers

    def attach(self, label, paper):
        """A paper of the claim under a label, or of its contrary, is kept with the label."""
        claim, stand = self.claim_of(label), self._stand
        if claim is None:
            raise InvalidPaper(paper)
        against = not is_paper_of(claim, paper)
        if against and not is_paper_of(contrary(claim), paper):
            raise InvalidPaper(paper)
        papers = dict(stand.papers)
        papers[label] = (stand.moment.claims[label], against, copied(paper))
        self._stand = Stand(stand.moment, stand.done, stand.undone, papers)

    def fits(self, label):
        """Whether the paper that is kept with a label is still one of what it was kept for."""
        claim, stand = self.claim_of(label), self._stand
        if claim is None or label not in stand.papers:
            return False
        words, against, paper = stand.papers[label]
        if words != stand.moment.claims[label]:
            return False
        return is_paper_of(contrary(claim) if against else claim, paper)

    def lines(self):
        """The list of the lines of the deeds that are not taken back."""
        return [line for line, _ in self._stand.done]

    def copy(self):
        """A desk that has all that this one has, and goes on by itself."""
        desk = Desk()
        desk._stand = self._stand
        return desk

    @classmethod
    def again(cls, lines):
        """A desk that has done these deeds."""
        check_lines(lines)
        desk = cls()
        desk.do_all(*lines)
        return desk


class Trial:
    """A block behind which all of a desk is as it was ahead of it."""

    def __init__(self, desk):
        self._desk = desk
        self._stand = desk._stand

    def __enter__(self):
        desk = self._desk
        self._stand = desk._stand
        return desk

    def __exit__(self, kind, value, trace):
        desk = self._desk
        desk._stand = self._stand


def tried(desk, action):
    """What the action returns for the desk, which is behind it as it was before."""
    with Trial(desk) as held:
        return action(held)
