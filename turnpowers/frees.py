"""Mixtures of elements, and the steps of what they mix to; for values that are known to be right."""


def mixed(field, some, figures):
    """The mixture of some elements by as many base figures."""
    total = 0
    for one, figure in zip(some, figures):
        total = field.added(total, field.multiplied(figure, one))
    return total


def widened(field, mixes, one):
    """The sums of each of the mixtures and each of the element's products with the base figures."""
    multiples = [field.multiplied(figure, one) for figure in range(field.prime)]
    return [field.added(mix, multiple) for mix in mixes for multiple in multiples]


def end_of(field, one):
    """The position at which an element that is not 0 ends."""
    return max([at for at, figure in enumerate(field.figures_of(one)) if figure != 0])


def cleared(field, one, step):
    """The element, less the multiple of the step that has the same figure where the step ends."""
    figure = field.figures_of(one)[end_of(field, step)]
    return field.taken(one, field.multiplied(figure, step))


def left_by(field, steps, one):
    """What is left of an element if multiples of the steps of a space are taken off where these end."""
    for step in steps:
        one = cleared(field, one, step)
    return one


def steps_of(field, some):
    """The steps of the least space that holds some elements."""
    steps = []
    for one in some:
        left = left_by(field, steps, one)
        if left != 0:
            last = field.figures_of(left)[end_of(field, left)]
            step = field.divided(left, last)
            steps = [cleared(field, other, step) for other in steps] + [step]
    return sorted(steps)
