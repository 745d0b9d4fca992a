"""Mends: changes of one sign of a player's rule with which it is safe and keeps with itself."""

from boxfall.companies import is_rule, row_with
from boxfall.errors import NoPlayer
from boxfall.forms import built, signs_of
from boxfall.leads import STRANGER, check_players, rules_from
from boxfall.sayings import Saying
from boxfall.strangers import is_safe

TURNED = {"not": "box", "box": "not"}
JOINING = ("and", "or", "if")
LEAVES = (("yes",), ("no",), ("act", "him", "me"), ("act", "me", "him"))


def signs_for(sign):
    """Return the signs that a change can put in the place of a sign."""
    word = sign[0]
    if word in TURNED:
        return [(TURNED[word], sign[1])]
    if word in JOINING:
        return [(other, sign[1], sign[2]) for other in JOINING if other != word]
    if word == "letter":
        return []
    return [leaf for leaf in LEAVES if leaf != sign]


def changes(rule):
    """Return all rules that come of one change of a rule, by ascending texts."""
    signs = signs_of(rule.form())
    found = {}
    for at, sign in enumerate(signs):
        for other in signs_for(sign):
            change = Saying(built(signs[:at] + [other] + signs[at + 1:])[0])
            if is_rule(change):
                found[change.text()] = change
    return [found[text] for text in sorted(found)]


def is_mended(company, name):
    """Tell whether a player is safe and keeps with itself in the end; not so if a name lacks."""
    try:
        return is_safe(company, name) and row_with(company, name, name)[-1]
    except NoPlayer:
        return False


def mends(company, name):
    """Return the changes of a player's rule with which it is safe and keeps with itself in the end.

    NoPlayer for a name that lacks with the rule as it is.
    """
    check_players(company, [name])
    rules_from(company, [(name, STRANGER), (name, name)])
    changed = company.twin()
    found = []
    for change in changes(company[name]):
        changed[name] = change
        if is_mended(changed, name):
            found.append(change)
    return found
