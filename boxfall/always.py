"""What holds always: at all levels, for all rows of letters."""

from boxfall.steps import Steps, least_choice, least_lot, lot_in, rows_of
from boxfall.walks import WHOLE, walk_of


class Breach:
    """How a saying fails: the least level at which it can, and the least rows with which it does there."""

    def __init__(self, level, rows):
        self.level = level
        self.rows = rows


def failing(steps, fallen):
    """Return the mask of the choices with which the saying is false at a set."""
    return steps.full ^ steps.told_at(fallen)[WHOLE]


def sets_behind(steps, layer, seen):
    """Return the sets that are first come to from those of a layer, and add them to those seen."""
    found = []
    for fallen in layer:
        for behind in steps.sets_from(fallen):
            if behind not in seen:
                seen[behind] = True
                found.append(behind)
    return found


def layers_to_failure(steps):
    """Return the sets that are first come to at level 0, 1, .. up to the first level with a failure.

    A set that was there at a lower level is of no use: it would have failed
    earlier, and so would those behind it. None if there is no failure.
    """
    layers = [[()]]
    seen = {(): True}
    while layers[-1]:
        if any([failing(steps, fallen) for fallen in layers[-1]]):
            return layers
        layers.append(sets_behind(steps, layers[-1], seen))
    return None


def ways_to(steps, layer, ways):
    """Return the dict from the sets of a layer to their least choices that lead to sets with ways."""
    found = {}
    for fallen in layer:
        choices = [choice for choice, behind in enumerate(steps.sets_from(fallen)) if behind in ways]
        if choices:
            found[fallen] = choices[0]
    return found


def choices_to_failure(steps, layers):
    """Return the least choices, level by level, with which the saying fails at the level of the last layer."""
    wrong = {fallen: failing(steps, fallen) for fallen in layers[-1]}
    levels = [{fallen: least_choice(wrong[fallen]) for fallen in wrong if wrong[fallen]}]
    for layer in layers[-2::-1]:
        levels.append(ways_to(steps, layer, levels[-1]))
    choices = []
    fallen = ()
    for ways in levels[::-1]:
        choices.append(ways[fallen])
        fallen = steps.sets_from(fallen)[ways[fallen]]
    return choices


def breach(saying):
    """Return None if a saying holds always, otherwise its Breach; NoActs if it has acts."""
    walk = walk_of(saying)
    steps = Steps(walk)
    layers = layers_to_failure(steps)
    if layers is None:
        return None
    choices = choices_to_failure(steps, layers)
    return Breach(len(layers) - 1, rows_of(choices, walk.free))


def always(saying):
    """Tell whether a saying holds always."""
    return breach(saying) is None


def follows(one, other):
    """Tell whether the other saying follows from the one: whether one >> other holds always."""
    return always(one >> other)


def alike(one, other):
    """Tell whether two sayings follow from one another."""
    return follows(one, other) and follows(other, one)


def reached(saying):
    """Return the least lot of a saying, ascending; NoActs if it has acts."""
    return least_lot(Steps(walk_of(saying)))


def is_paper(saying, thing):
    """Tell of any object whether it is a lot at whose sets the saying is always true; NoActs if it has acts."""
    steps = Steps(walk_of(saying))
    lot = lot_in(steps, thing)
    return lot is not None and not any([failing(steps, fallen) for fallen in lot])
