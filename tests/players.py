"""Players and the stranger, as the document tells of them, taken slowly.

A company is a pair of dicts here: from names to forms, and from pairs of
names to forms. Nothing here uses the package.
"""

import oracle


def put_names(form, me, him):
    """A form with names in the place of `me` and `him`."""
    if form[0] == "act":
        return ("act",) + tuple({"me": me, "him": him}.get(word, word) for word in form[1:])
    return tuple(put_names(item, me, him) if isinstance(item, tuple) else item for item in form)


def rule_of(company, who, whom):
    rules, own = company
    return put_names(own.get((who, whom), rules[who]), who, whom)


def acts_of(form):
    return {sign[1:] for sign in oracle.signs_of(form) if sign[0] == "act"}


def acts_led_to(company, acts):
    """All acts whose rules count: those told, and those to which they lead."""
    found = {pair for pair in acts if pair[0] in company[0]}
    while True:
        more = {pair for who, whom in found for pair in acts_of(rule_of(company, who, whom)) if pair[0] in company[0]}
        if more <= found:
            return found
        found |= more


def spoken_of(company, acts):
    return {word for who, whom in acts_led_to(company, acts)
            for pair in acts_of(rule_of(company, who, whom)) for word in pair}


def least_lacking(company, acts):
    """The least name that lacks, None if there is none."""
    return min([name for name in spoken_of(company, acts) if name != "x" and name not in company[0]], default=None)


def boxes_that_count(company, acts):
    """The boxes of all rules that count, in the order of their texts."""
    boxes = set()
    for who, whom in acts_led_to(company, acts):
        boxes |= oracle.boxes_of(rule_of(company, who, whom))
    return sorted(boxes, key=oracle.text_of)


def truth(company, rows, form, level, known):
    """The truth of a form with names at a level; rows are those of the stranger's acts."""
    key = (form, level)
    if key not in known:
        known[key] = truth_new(company, rows, form, level, known)
    return known[key]


def truth_new(company, rows, form, level, known):
    word = form[0]
    if word in ("yes", "no"):
        return word == "yes"
    if word == "act" and form[1] == "x":
        row = rows[form[2]]
        return row[level] if level < len(row) else row[-1]
    if word == "act":
        return truth(company, rows, rule_of(company, *form[1:]), level, known)
    if word == "box":
        return all([truth(company, rows, form[1], lower, known) for lower in range(level)])
    inner = [truth(company, rows, item, level, known) for item in form[1:]]
    return {"not": not inner[0], "and": all(inner), "or": any(inner), "if": not inner[0] or inner[-1]}[word]


def acts_at_levels(company, rows, acts, levels):
    """The rows of some acts at so many levels, with what was found of all else."""
    known = {}
    found = {act: [] for act in acts}
    for level in range(levels):
        for act in acts:
            found[act].append(truth(company, rows, ("act",) + act, level, known))
    return found, known


def row_with(company, one, other):
    levels = len(boxes_that_count(company, [(one, other)])) + 2
    return oracle.plain(acts_at_levels(company, {}, [(one, other)], levels)[0][one, other])


def matches(company):
    acts = [(one, other) for one in company[0] for other in company[0]]
    levels = len(boxes_that_count(company, acts)) + 2
    return {act: oracle.plain(row) for act, row in acts_at_levels(company, {}, acts, levels)[0].items()}


def met(company, name):
    acts = [pair for who, whom in acts_led_to(company, [(name, "x")]) for pair in acts_of(rule_of(company, who, whom))]
    return sorted({name} | {whom for who, whom in acts if who == "x"})


def meeting(company, name, rows):
    """The row, the sets up to the first level from which on nothing changes, and the end."""
    boxes = boxes_that_count(company, [(name, "x")])
    names = met(company, name)
    levels = len(boxes) + max(len(rows[one]) for one in names) + 2
    acts = [(name, "x")] + [("x", one) for one in names]
    found, known = acts_at_levels(company, rows, acts, levels)
    states = []
    for level in range(levels):
        fallen = tuple(place for place, box in enumerate(boxes) if not truth(company, rows, box, level, known))
        states.append((fallen, [found["x", one][level] for one in names]))
    last = min(level for level in range(levels) if all(state == states[level] for state in states[level:]))
    sets = [fallen for fallen, _ in states[:last + 1]]
    return oracle.plain(found[name, "x"]), sets, (found[name, "x"][last], found["x", name][last])


def drawn_rule(source, length, words):
    """A rule of about so many signs: acts only stand within boxes."""
    leaves = [("yes",), ("no",)] + [("act", who, whom) for who in words for whom in words]
    if length < 3 or source.random() < 0.5:
        return ("box", oracle.drawn(source, max(1, length - 1), leaves))
    if source.random() < 0.3:
        return ("not", drawn_rule(source, length - 1, words))
    first = source.randint(1, length - 2)
    return (source.choice(("and", "or", "if")), drawn_rule(source, first, words),
            drawn_rule(source, length - 1 - first, words))


def drawn_company(source, names, lengths, words):
    """A company of players with some of these names, and some rules of their own."""
    many = source.randint(1, len(names))
    players = source.sample(names, many)
    words = ("me", "him", "me", "him") + tuple(source.sample(players, min(many, words)))
    rules = {name: drawn_rule(source, source.randint(1, lengths), words) for name in players}
    own = {}
    for _ in range(source.randint(0, many)):
        pair = (source.choice(players), source.choice(names))
        own[pair] = drawn_rule(source, source.randint(1, lengths), words)
    return rules, own
