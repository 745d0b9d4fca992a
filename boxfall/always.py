"""What holds always: at all levels, for all rows of letters."""

from boxfall.paths import choices_to
from boxfall.steps import Steps, least_lot, lot_in, rows_of
from boxfall.walks import WHOLE, walk_of


class Breach:
    """How a saying fails: the least level at which it can, and the least rows with which it does there."""

    def __init__(self, level, rows):
        self.level = level
        self.rows = rows


def failing(steps, fallen):
    """Return the mask of the choices with which the saying is false at a set."""
    return steps.full ^ steps.mask_at(WHOLE, fallen)


def breach(saying):
    """Return None if a saying holds always, otherwise its Breach; NoActs if it has acts."""
    walk = walk_of(saying)
    steps = Steps(walk)
    choices = choices_to(steps, lambda fallen: failing(steps, fallen))
    if choices is None:
        return None
    return Breach(len(choices) - 1, rows_of(choices, walk.free))


def always(saying):
    """Tell whether a saying holds always."""
    return breach(saying) is None


def follows(one, other):
    """Tell whether the other saying follows from the one: whether one >> other holds always."""
    return always(one >> other)


def alike(one, other):
    """Tell whether two sayings follow from one another."""
    return follows(one, other) and follows(other, one)


def reached(saying):
    """Return the least lot of a saying, ascending; NoActs if it has acts."""
    return least_lot(Steps(walk_of(saying)))


def is_paper(saying, thing):
    """Tell of any object whether it is a lot at whose sets the saying is always true; NoActs if it has acts."""
    steps = Steps(walk_of(saying))
    lot = lot_in(steps, thing)
    return lot is not None and not any([failing(steps, fallen) for fallen in lot])
