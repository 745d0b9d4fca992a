"""Meetings of players with the stranger."""

from boxfall.errors import NoRow
from boxfall.leads import STRANGER, act_text, check_players, names_met, rules_from, walk_by
from boxfall.rows import plain, row_of_text
from boxfall.walks import inner_of, levels_of


class Meeting:
    """What comes of a meeting: the row of the player, the sets of fallen boxes, and the pair of acts in the end."""

    def __init__(self, row, sets, end):
        self.row = row
        self.sets = sets
        self.end = end


def rules_met(company, name):
    """Return the rules that count where a player meets the stranger; NoPlayer for a name that lacks."""
    check_players(company, (name,))
    return rules_from(company, [(name, STRANGER)])


def fallen_in(told, boxes):
    """Return the set of fallen boxes, given the list of the boxes' texts."""
    return tuple([place for place, text in enumerate(boxes) if not told[text]])


def met(company, name):
    """Return those with whom the stranger's acts count where a player meets it, ascending."""
    return names_met(rules_met(company, name), [name])


def boxes_with(company, name):
    """Return the texts of all boxes that count where a player meets the stranger, ascending."""
    return list(inner_of(list(rules_met(company, name).values())))


def meeting(company, name, rows):
    """Return the Meeting for rows of the stranger's acts; NoPlayer, then NoRow for the least without a row."""
    rules = rules_met(company, name)
    names = names_met(rules, [name])
    for one in names:
        if one not in rows:
            raise NoRow(one)
    told_rows = {act_text(STRANGER, one): plain(rows[one]) for one in names}
    walk = walk_by(rules, list(told_rows))
    levels = levels_of(walk, told_rows)
    row = row_of_text(levels, act_text(name, STRANGER))
    sets = [fallen_in(told, list(walk.inner)) for told in levels]
    return Meeting(row, sets, (row[-1], told_rows[act_text(STRANGER, name)][-1]))
