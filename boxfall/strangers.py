"""What strangers can bring about with a player, and papers that they cannot."""

from boxfall.facing import alone, choices_to_end, ends_resting, possible_ends, rows_met
from boxfall.steps import least_lot, lot_in, reached_sets


def ends(company, name):
    """Return the dict from all pairs in which a meeting can end, ascending, to the least rows with which it does."""
    facing = alone(company, name)
    return {told[0]: rows_met(facing, choices_to_end(facing, told)) for told in possible_ends(facing)}


def is_safe(company, name):
    """Tell whether nobody can bring a player to keep in the end with who does not keep with it."""
    return ((True, False),) not in possible_ends(alone(company, name))


def reached_with(company, name):
    """Return the least lot of a player's meetings, ascending."""
    return least_lot(alone(company, name).steps)


def is_shield(company, name, end, thing):
    """Tell of any object whether it is a lot of a player's meetings at which none comes to rest with an end."""
    facing = alone(company, name)
    lot = lot_in(facing.steps, thing)
    return lot is not None and not any([(tuple(end),) in ends_resting(facing, fallen) for fallen in lot])


def falls(company, name):
    """Return the greatest number of times that the set can change in a meeting."""
    steps = alone(company, name).steps
    longest = {}
    # A set leads to itself and to sets with more boxes alone, which are greater numbers.
    for fallen in sorted(reached_sets(steps), reverse=True):
        others = [behind for behind in steps.sets_from(fallen) if behind != fallen]
        longest[fallen] = max([1 + longest[behind] for behind in others], default=0)
    return longest[0]


def can_wait(company, name):
    """Tell whether at some reached set the stranger can let all stand as it is, or else go on."""
    steps = alone(company, name).steps
    for fallen in reached_sets(steps):
        behind = steps.sets_from(fallen)
        if fallen in behind and any([other != fallen for other in behind]):
            return True
    return False
