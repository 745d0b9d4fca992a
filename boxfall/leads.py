"""The rules that count: those of some acts, and all rules to which they lead.

An act is a pair of two words: who acts, and for whom. The stranger is told
by a word that is no name. A company is only asked for players and rules
here.
"""

from boxfall.errors import NoPlayer
from boxfall.forms import built, signs_of, with_names
from boxfall.outlines import outline_of
from boxfall.walks import Walk, inner_of

STRANGER = "x"


def act_text(who, whom):
    """Return the text of an act."""
    return f"{who}-{whom}"


def check_players(company, names):
    """Raise NoPlayer for the first of some objects that is no player."""
    for name in names:
        if name not in company:
            raise NoPlayer(name)


def rule_for(company, who, whom):
    """Return the rule of a player for a name, a player or none, or for the stranger."""
    if whom == STRANGER:
        return company[who]
    return company[who, whom]


def acts_in(signs):
    """Return the acts in the signs of a rule."""
    return [(sign[1], sign[2]) for sign in signs if sign[0] == "act"]


def lacking_in(company, counting):
    """Return the names in rules, told by their signs, that are no players."""
    spoken = [word for signs in counting for pair in acts_in(signs) for word in pair]
    return [word for word in spoken if word != STRANGER and word not in company]


def rules_from(company, acts):
    """Return the dict from acts, and all acts to which they lead, to the signs of their rules.

    Names stand in the place of `me` and `him`. NoPlayer for the least name
    in them that is no player.
    """
    rules = {}
    todo = list(acts)
    while todo:
        who, whom = todo.pop()
        if who in company and (who, whom) not in rules:
            rule = rule_for(company, who, whom)
            rules[who, whom] = with_names(signs_of(rule.form()), who, whom)
            todo.extend(acts_in(rules[who, whom]))
    lacking = lacking_in(company, list(rules.values()))
    if lacking:
        raise NoPlayer(min(lacking))
    return rules


def names_met(rules, players):
    """Return those with whom the stranger's acts count, ascending, the players themselves always."""
    acts = [pair for signs in rules.values() for pair in acts_in(signs)]
    acts.extend([(STRANGER, name) for name in players])
    return sorted({whom for who, whom in acts if who == STRANGER})


def told_as(sign, alike):
    """Return a sign, an act of the stranger with the name that stands for its WHOM in a dict."""
    if sign[0] != "act" or sign[1] != STRANGER:
        return sign
    return ("act", STRANGER, alike.get(sign[2], sign[2]))


def rules_told_as(rules, alike):
    """Return rules in which acts of the stranger with some names are told as its acts with others, by a dict."""
    return {act: built([told_as(sign, alike) for sign in rules[act]]) for act in rules}


def walk_by(rules, free):
    """Return the walk of the acts that have rules; the texts of the stranger's acts are free."""
    asked = {act_text(who, whom): outline_of(rules[who, whom][0]) for who, whom in rules}
    return Walk(inner_of(list(rules.values())), asked, free)
