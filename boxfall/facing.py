"""Players that face the stranger side by side, and the ends that can come of it.

An END is a pair of truths: the act of a player with the stranger, and the
stranger's act with the player. Ends of several players are told by a tuple.
"""

from boxfall.leads import STRANGER, act_text, check_players, names_met, rules_from, rules_told_as, walk_by
from boxfall.paths import choices_to
from boxfall.steps import Steps, digit_of, reached_sets, rest_of, rows_of


class Facing:
    """What players go by that face the stranger.

    players: their names; met: those with whom the stranger's acts count,
    ascending; steps: the steps that these acts make. By the dict alike the
    stranger's acts with some names are told as its acts with others.
    """

    def __init__(self, rules, players, alike):
        told = rules_told_as(rules, alike)
        partners = [alike.get(player, player) for player in players]
        self.players = list(players)
        self.met = names_met(told, partners)
        self.steps = Steps(walk_by(told, [act_text(STRANGER, one) for one in self.met]))
        self._places = {player: self.met.index(one) for player, one in zip(players, partners)}

    def keeps(self, player, fallen):
        """Tell whether a player keeps with the stranger at a set."""
        return self.steps.mask_at(act_text(player, STRANGER), fallen) == self.steps.full

    def is_kept_with(self, player, choice):
        """Tell whether the stranger keeps with a player by a choice."""
        return digit_of(choice, self._places[player], len(self.met)) == 1

    def ends_at(self, fallen, choice):
        """Return the ends of the players at a set where a choice comes to rest."""
        return tuple([(self.keeps(player, fallen), self.is_kept_with(player, choice)) for player in self.players])


def facing_of(company, players, alike):
    """Return the Facing of some players; NoPlayer for the first that is none, then for a name that lacks."""
    check_players(company, players)
    return Facing(rules_from(company, [(player, STRANGER) for player in players]), players, alike)


def alone(company, name):
    """Return the Facing of one player alone; NoPlayer for a name that lacks."""
    return facing_of(company, [name], {})


def ends_resting(facing, fallen):
    """Return the list of the ends with which a set leads to itself, by the choices with which it does."""
    behind = facing.steps.sets_from(fallen)
    return [facing.ends_at(fallen, choice) for choice in range(facing.steps.many) if behind[choice] == fallen]


def possible_ends(facing):
    """Return the list of all ends that can come, ascending."""
    sets = reached_sets(facing.steps)
    return sorted({ends for fallen in sets for ends in ends_resting(facing, fallen)})


def mask_to_end(facing, ends, fallen):
    """Return the mask of the choices that come to rest with some ends from a set."""
    steps = facing.steps
    return sum([1 << choice for choice in range(steps.many)
                if facing.ends_at(rest_of(steps, fallen, choice), choice) == ends])


def choices_to_end(facing, ends):
    """Return the fewest choices that lead to ends that can come, of these the least ones level by level."""
    return choices_to(facing.steps, lambda fallen: mask_to_end(facing, ends, fallen))


def rows_met(facing, choices):
    """Return the dict from those met to their rows, given a choice for each level."""
    return rows_of(choices, facing.met)
