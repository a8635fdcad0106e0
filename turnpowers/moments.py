"""What a desk keeps at one time: things under names, claims under labels, and the states of these."""

from turnpowers.claims import is_claim, is_true
from turnpowers.commands import CLAIMS
from turnpowers.errors import LimitError, UnknownName, UnlikeFields
from turnpowers.things import told_values

GONE = "gone"


class Moment:
    """Things under names, the words of claims under labels, and their states; it and its dicts are never changed."""

    def __init__(self, things, claims, states):
        self.things = things
        self.claims = claims
        self.states = states


def claim_told(things, words):
    """The tuple that the words of a claim tell, with the things that are kept."""
    kinds = CLAIMS[words[0]]
    field, values = told_values(things, kinds, words[1:])
    # Turn sums are kept without their field, which such claims tell, too.
    ahead = [words[0], field] if kinds[0] == "ONE" else [words[0]]
    return tuple(ahead + values)


def state_of(claim):
    """The state of a claim that is noted; any tuple may be told."""
    if not is_claim(claim):
        return GONE
    try:
        return "true" if is_true(claim) else "false"
    except LimitError:
        return GONE


def state_told(things, words):
    """The state of the claim that the words tell, with the things that are kept."""
    try:
        return state_of(claim_told(things, words))
    except (UnknownName, UnlikeFields):
        return GONE


def with_things(moment, things, name):
    """The moment with other things, of which just that under one name is another one, or gone, or new."""
    states = {}
    for label in moment.claims:
        words = moment.claims[label]
        states[label] = state_told(things, words) if name in words[1:] else moment.states[label]
    return Moment(things, moment.claims, states)


def with_thing(moment, name, thing):
    """The moment with this thing under the name."""
    things = dict(moment.things)
    things[name] = thing
    return with_things(moment, things, name)


def without_thing(moment, name):
    """The moment with nothing under the name."""
    things = dict(moment.things)
    del things[name]
    return with_things(moment, things, name)


def with_claim(moment, label, words, state):
    """The moment with a claim under the label."""
    claims, states = dict(moment.claims), dict(moment.states)
    claims[label] = words
    states[label] = state
    return Moment(moment.things, claims, states)


def without_claim(moment, label):
    """The moment with no claim under the label."""
    claims, states = dict(moment.claims), dict(moment.states)
    del claims[label]
    del states[label]
    return Moment(moment.things, claims, states)


def claim_now(moment, label):
    """The claim under a label as a tuple, its lists new; None while its state is gone."""
    if moment.states[label] == GONE:
        return None
    return claim_told(moment.things, moment.claims[label])


def told_states(states, labels):
    """The labels, sorted, each with its state, parted by commas; the sign for none."""
    return ", ".join([f"{label} {states[label]}" for label in sorted(labels)]) if labels != [] else "-"


def told_changes(before, after):
    """How the states of the second moment are others than those of the first one."""
    labels = [label for label in after.states if before.states.get(label, None) != after.states[label]]
    return told_states(after.states, labels)
