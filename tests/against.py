"""Questions about the stranger, answered by a search through all rows or all sets.

A company is a pair of dicts as in players.py. `alike` is the dict from names
to the names by which the stranger's acts with them are told. Nothing here
uses the package.
"""

import itertools

import oracle
import players
import search

T, F = True, False


class Side:
    """Some players that meet the stranger side by side."""

    def __init__(self, told, names, alike):
        self.told, self.names, self.alike = told, names, alike
        self.boxes = players.boxes_that_count(told, [(name, "x") for name in names])
        self.every = sorted({one for name in names for one in players.met(told, name)})
        self.met = sorted({alike.get(one, one) for one in self.every})

    def acts(self, rows, levels):
        """The rows of the players' acts with the stranger, and those of all its acts, at so many levels."""
        every = {one: rows[self.alike.get(one, one)] or (F,) for one in self.every}
        found, _ = players.acts_at_levels(self.told, every, [(name, "x") for name in self.names], levels)
        return [found[name, "x"] for name in self.names], every

    def ends(self, rows):
        acts, every = self.acts(rows, len(self.boxes) + max([len(row) for row in rows.values()]) + 1)
        return tuple((row[-1], every[name][-1]) for name, row in zip(self.names, acts))

    def rows_in_order(self):
        """All rows that can be least ones, in order: a least one goes on to a new set with each truth but the last."""
        for length in range(1, len(self.boxes) + 2):
            yield from search.all_rows(self.met, length)


def size_of(told, names, alike):
    """How many boxes and how many acts count."""
    side = Side(told, names, alike)
    return len(side.boxes), len(side.met)


def least_rows(told, names, alike):
    """The dict from the ends of some players, ascending, to the first rows that lead there."""
    side = Side(told, names, alike)
    found = {}
    for rows in side.rows_in_order():
        found.setdefault(side.ends(rows), rows)
    return {ends: found[ends] for ends in sorted(found)}


def as_less(one, other):
    return {max(one, other): min(one, other)}


def parting(told, one, other):
    """The level, the first rows up to it, and the pair where two players part; None if they do not."""
    side = Side(told, [one, other], as_less(one, other))
    for level in range(len(side.boxes) + 1):
        for rows in search.all_rows(side.met, level):
            acts, _ = side.acts(rows, level + 1)
            if acts[0][level] != acts[1][level]:
                return level, rows, (acts[0][level], acts[1][level])
    return None


def got(worth, own, others):
    if own:
        return worth[3] if others else worth[2]
    return worth[1] if others else worth[0]


def never_worse(told, one, other, worth):
    """The first rows with which one gets less than other, None if there are none."""
    side = Side(told, [one, other], as_less(one, other))
    for rows in side.rows_in_order():
        ends = side.ends(rows)
        if got(worth, *ends[0]) < got(worth, *ends[1]):
            return rows
    return None


def best_players(told, worth):
    names = sorted(told[0])
    good = {(one, other): never_worse(told, one, other, worth) is None for one in names for other in names}
    return [p for p in names if not any(good[q, p] and not good[p, q] for q in names if q != p)]


def all_alike(told):
    return {name: "x" for name in told[0]}


def joint_ends(told, names):
    return {ends: rows["x"] for ends, rows in least_rows(told, names, all_alike(told)).items()}


def best_row(told, names, worth):
    """The greatest sum and the first row of the fewest truths for it, by all rows anew."""
    side = Side(told, names, all_alike(told))
    best = None
    for rows in side.rows_in_order():
        total = sum(got(worth, his, own) for own, his in side.ends(rows))
        if best is None or total > best[0]:
            best = total, rows["x"]
    return best


def truth_at(told, form, fallen, acts):
    """The truth of a form with names at a set of fallen boxes, with told acts of the stranger."""
    word = form[0]
    if word in ("yes", "no"):
        return word == "yes"
    if word == "act" and form[1] == "x":
        return acts[form[2]]
    if word == "act":
        return truth_at(told, players.rule_of(told, *form[1:]), fallen, acts)
    if word == "box":
        return form not in fallen
    inner = [truth_at(told, item, fallen, acts) for item in form[1:]]
    return {"not": not inner[0], "and": all(inner), "or": any(inner), "if": not inner[0] or inner[-1]}[word]


class Walks:
    """All steps from set to set where a player meets the stranger; sets are frozen ones of places."""

    def __init__(self, told, name):
        self.told, self.name = told, name
        self.boxes = players.boxes_that_count(told, [(name, "x")])
        names = players.met(told, name)
        self.choices = [dict(zip(names, truths)) for truths in itertools.product((F, T), repeat=len(names))]
        self.known = {}
        self.sets = self.around([])

    def steps(self, fallen):
        """The sets that follow, one for each choice."""
        if fallen not in self.known:
            down = {self.boxes[place] for place in fallen}
            self.known[fallen] = [
                fallen | {place for place, box in enumerate(self.boxes) if not truth_at(self.told, box[1], down, acts)}
                for acts in self.choices]
        return self.known[fallen]

    def around(self, sets):
        """The least lot that contains some sets."""
        found, todo = set(), [frozenset(), *sets]
        while todo:
            fallen = todo.pop()
            if fallen not in found:
                found.add(fallen)
                todo.extend(self.steps(fallen))
        return found

    def resting_ends(self, fallen):
        down = {self.boxes[place] for place in fallen}
        own = truth_at(self.told, players.rule_of(self.told, self.name, "x"), down, self.choices[0])
        return {(own, acts[self.name]) for acts, behind in zip(self.choices, self.steps(fallen)) if behind == fallen}

    def ends(self):
        return sorted(set().union(*[self.resting_ends(fallen) for fallen in self.sets]))

    def falls(self, fallen=frozenset()):
        return max([1 + self.falls(behind) for behind in set(self.steps(fallen)) if behind != fallen], default=0)

    def can_wait(self):
        return any(fallen in self.steps(fallen) and len(set(self.steps(fallen))) > 1 for fallen in self.sets)


def told_lot(sets):
    """A lot as callers are told it."""
    return sorted(tuple(sorted(fallen)) for fallen in sets)


def sets_along_rows(told, name):
    """All sets at all levels along all rows of as many truths as there are boxes."""
    boxes = players.boxes_that_count(told, [(name, "x")])
    found = {()}
    for rows in search.all_rows(players.met(told, name), max(len(boxes), 1)):
        _, known = players.acts_at_levels(told, rows, [(name, "x")], len(boxes) + 1)
        for level in range(len(boxes) + 1):
            found.add(tuple(place for place, box in enumerate(boxes)
                            if not players.truth(told, rows, box, level, known)))
    return sorted(found)


def changed(form):
    """All forms that come of a form by one change."""
    word = form[0]
    if word == "letter":
        return []
    if word in ("yes", "no", "act"):
        return [leaf for leaf in (("yes",), ("no",), ("act", "him", "me"), ("act", "me", "him")) if leaf != form]
    found = [(other, *form[1:]) for other in {"not": ("box",), "box": ("not",), "and": ("or", "if"),
                                              "or": ("and", "if"), "if": ("and", "or")}[word]]
    for at in range(1, len(form)):
        found.extend(form[:at] + (inner,) + form[at + 1:] for inner in changed(form[at]))
    return found


def is_boxed(form):
    if form[0] in ("act", "letter"):
        return False
    return form[0] == "box" or all(is_boxed(item) for item in form[1:])


def is_rule(form):
    return is_boxed(form) and not any(sign[0] == "letter" for sign in oracle.signs_of(form))


def changes(form):
    return sorted(filter(is_rule, changed(form)), key=oracle.text_of)


def mends(told, name):
    """The changes of a player's rule with which it is safe and keeps with itself in the end."""
    rules, own = told
    found = []
    for form in changes(rules[name]):
        new = {**rules, name: form}, own
        if players.least_lacking(new, [(name, "x"), (name, name)]) is None:
            if (T, F) not in Walks(new, name).ends() and players.row_with(new, name, name)[-1]:
                found.append(form)
    return found


def drawn(source, names, longest, words, players_asked=1, most=10, width=3):
    """A drawn company with some of its players, of whose meetings not too many boxes and acts count."""
    while True:
        told = players.drawn_company(source, names, longest, words)
        asked = [source.choice(sorted(told[0])) for _ in range(players_asked)]
        boxes, acts = size_of(told, asked, {})
        if boxes <= most and acts <= width:
            return told, asked
