"""Players compared: side by side against all strangers, and strangers with one row for all."""

from boxfall.facing import choices_to_end, facing_of, possible_ends, rows_met
from boxfall.leads import STRANGER, check_players, rules_from
from boxfall.paths import choices_to
from boxfall.steps import set_after


class Parting:
    """Where two players part: the least level, the least rows up to it, and the pair of their acts there."""

    def __init__(self, level, rows, pair):
        self.level = level
        self.rows = rows
        self.pair = pair


def side_by_side(company, one, other):
    """Return the Facing of two players with whom the stranger acts by the same row; NoPlayer for a name that lacks."""
    check_players(company, [one, other])
    return facing_of(company, [one, other], {max(one, other): min(one, other)})


def parting(company, one, other):
    """Return None if two players act alike for all rows, otherwise their Parting; NoPlayer for a name that lacks."""
    facing = side_by_side(company, one, other)
    steps = facing.steps

    def unlike(fallen):
        return 0 if facing.keeps(one, fallen) == facing.keeps(other, fallen) else steps.full

    choices = choices_to(steps, unlike)
    if choices is None:
        return None
    # Acts hang on lower levels alone: the choice at the level itself has no part in them.
    below = choices[:-1]
    fallen = set_after(steps, below)
    return Parting(len(below), rows_met(facing, below), (facing.keeps(one, fallen), facing.keeps(other, fallen)))


def stands_for(company, one, other):
    """Tell whether two players act alike for all rows."""
    return parting(company, one, other) is None


def got(worth, end):
    """Return what somebody gets in the end, given the own act and that of the other one."""
    own, others = end
    return worth[(2 if own else 0) + (1 if others else 0)]


def least_of(found):
    """Return the shortest of some rows or lists of choices, of these the first one."""
    return min(found, key=lambda row: (len(row), row))


def never_worse(company, one, other, worth):
    """Return None if one never gets less in the end than other, otherwise the least rows for which it does."""
    facing = side_by_side(company, one, other)
    worse = [ends for ends in possible_ends(facing) if got(worth, ends[0]) < got(worth, ends[1])]
    if not worse:
        return None
    return rows_met(facing, least_of([choices_to_end(facing, ends) for ends in worse]))


def lesser_ones(company, worth):
    """Return the dict from the pairs of players of whom the first can get less than the second, side by side."""
    names = company.names()
    found = {}
    for at, one in enumerate(names):
        for other in names[at + 1:]:
            for ends in possible_ends(side_by_side(company, one, other)):
                if got(worth, ends[0]) < got(worth, ends[1]):
                    found[one, other] = True
                if got(worth, ends[1]) < got(worth, ends[0]):
                    found[other, one] = True
    return found


def best_players(company, worth):
    """Return the players, ascending, than whom no other one is better; NoPlayer for a name that lacks."""
    names = company.names()
    rules_from(company, [(name, STRANGER) for name in names])
    lesser = lesser_ones(company, worth)
    return [name for name in names
            if not any([(name, other) in lesser and (other, name) not in lesser for other in names])]


def joint_ends(company, names):
    """Return the dict from the tuples of ends that can come of one row for all, ascending, to the least row."""
    facing = facing_of(company, names, {name: STRANGER for name in company.names()})
    return {ends: rows_met(facing, choices_to_end(facing, ends))[STRANGER] for ends in possible_ends(facing)}


def best_row(company, names, worth):
    """Return the greatest sum that the stranger gets by one row for all, and the least row with which it does."""
    rows = joint_ends(company, names)
    sums = {ends: sum([got(worth, (told, act)) for act, told in ends]) for ends in rows}
    most = max(list(sums.values()))
    return (most, least_of([rows[ends] for ends in rows if sums[ends] == most]))
