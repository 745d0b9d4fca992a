"""Companies of players, and the acts of players with one another."""

from boxfall.errors import BadName, BadRule, NoPlayer
from boxfall.forms import is_name
from boxfall.leads import act_text, check_players, rules_from, walk_by
from boxfall.rows import row_of_text
from boxfall.sayings import Saying
from boxfall.walks import levels_of


def names_in(key):
    """Return the list of the names in a key, one or two; BadName for the first object that is none."""
    names = list(key) if isinstance(key, tuple) and len(key) == 2 else [key]
    for name in names:
        if not is_name(name):
            raise BadName(name)
    return names


def is_rule(thing):
    """Tell of any object whether it is a rule."""
    return isinstance(thing, Saying) and not thing.letters() and thing.is_boxed()


class Company:
    """A company: players, their rules, and their rules of their own for others."""

    def __init__(self, rules=None):
        self._rules = {}
        self._own = {}
        if rules is not None:
            for name, rule in rules.items():
                if not is_name(name):
                    raise BadName(name)
                self[name] = rule

    def __setitem__(self, at, worth):
        names = names_in(at)
        if len(names) == 2:
            self._check(names[0])
        if not is_rule(worth):
            raise BadRule()
        if len(names) == 2:
            self._own[names[0]][names[1]] = worth
        else:
            self._rules[names[0]] = worth
            self._own.setdefault(names[0], {})

    def __getitem__(self, at):
        names = names_in(at)
        self._check(names[0])
        rule = self._rules[names[0]]
        if len(names) == 2 and names[1] in self._own[names[0]]:
            rule = self._own[names[0]][names[1]]
        return rule

    def __contains__(self, x):
        return is_name(x) and x in self._rules

    def __iter__(self):
        raise TypeError("a company is not gone through: take its names")

    def __len__(self):
        return len(self._rules)

    def __eq__(self, other):
        return isinstance(other, Company) and self._rules == other._rules and self._own == other._own

    def _check(self, name):
        """Raise NoPlayer for a name that is no player."""
        if name not in self._rules:
            raise NoPlayer(name)

    def drop(self, key):
        """Take out a player with all its rules, or for a pair a rule of its own, if there is one."""
        names = names_in(key)
        self._check(names[0])
        if len(names) == 1:
            del self._rules[names[0]]
            del self._own[names[0]]
        elif names[1] in self._own[names[0]]:
            del self._own[names[0]][names[1]]

    def names(self):
        """Return the names of the players, ascending."""
        return sorted(self._rules)

    def own(self, name):
        """Return the names for which a player has rules of its own, ascending."""
        if not is_name(name):
            raise BadName(name)
        self._check(name)
        return sorted(self._own[name])

    def twin(self):
        """Return another company that is as this one is."""
        twin = Company(self._rules)
        for name in self._own:
            twin._own[name] = dict(self._own[name])
        return twin


def row_with(company, one, other):
    """Return the plain row of the acts of one player with another; NoPlayer for a name that lacks."""
    check_players(company, (one, other))
    walk = walk_by(rules_from(company, [(one, other)]), [])
    return row_of_text(levels_of(walk, {}), act_text(one, other))


def matches(company):
    """Return the dict from all pairs of players to the plain rows of their acts; NoPlayer for a name that lacks."""
    names = company.names()
    pairs = [(one, other) for one in names for other in names]
    levels = levels_of(walk_by(rules_from(company, pairs), []), {})
    return {(one, other): row_of_text(levels, act_text(one, other)) for one, other in pairs}
