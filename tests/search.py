"""What holds always, found by a search through all rows, with the slow truths of oracle.py."""

import itertools

import oracle


def boxes_in_order(form):
    return sorted(oracle.boxes_of(form), key=oracle.text_of)


def letters_of(form):
    return sorted({sign[1] for sign in oracle.signs_of(form) if sign[0] == "letter"})


def all_rows(letters, length):
    """All rows of so many truths, in the order of how they are written level by level."""
    for truths in itertools.product((False, True), repeat=length * len(letters)):
        yield {name: truths[at::len(letters)] for at, name in enumerate(letters)}


def first_breach(form, most):
    """The least level up to most at which a form fails, with the first rows; None if there is none."""
    for level in range(most + 1):
        for rows in all_rows(letters_of(form), level + 1):
            if not oracle.truth(form, level, rows, {}):
                return level, rows
    return None


def fallen_at(boxes, level, rows, known):
    return tuple(place for place, box in enumerate(boxes) if not oracle.truth(box, level, rows, known))


def sets_along_rows(form):
    """All sets of fallen boxes at all levels along all rows.

    Each new one takes a box more, so as many levels as there are boxes do.
    """
    boxes = boxes_in_order(form)
    found = set()
    for rows in all_rows(letters_of(form), max(len(boxes), 1)):
        known = {}
        found.update(fallen_at(boxes, level, rows, known) for level in range(len(boxes) + 1))
    return sorted(found)


def truth_at(form, boxes, fallen, told):
    """The truth of a form at a set, with told truths of its letters."""
    word = form[0]
    if word in ("yes", "no"):
        return word == "yes"
    if word == "letter":
        return told[form[1]]
    if word == "box":
        return boxes.index(form) not in fallen
    inner = [truth_at(item, boxes, fallen, told) for item in form[1:]]
    return {"not": not inner[0], "and": all(inner), "or": any(inner), "if": not inner[0] or inner[-1]}[word]


def all_told(form):
    letters = letters_of(form)
    return [dict(zip(letters, truths)) for truths in itertools.product((False, True), repeat=len(letters))]


def sets_from(form, fallen):
    """The sets to which a step leads from a set with any truths of the letters."""
    boxes = boxes_in_order(form)
    return {tuple(place for place, box in enumerate(boxes)
                  if place in fallen or not truth_at(box[1], boxes, fallen, told))
            for told in all_told(form)}


def is_lot(form, sets):
    return () in sets and all(sets_from(form, fallen) <= set(sets) for fallen in sets)


def holds_at(form, fallen):
    boxes = boxes_in_order(form)
    return all(truth_at(form, boxes, fallen, told) for told in all_told(form))


def all_sets(form):
    many = len(oracle.boxes_of(form))
    return [places for size in range(many + 1) for places in itertools.combinations(range(many), size)]


def least_lot_around(form, sets):
    """The least lot that contains some sets."""
    lot = set(sets) | {()}
    while True:
        more = lot.union(*[sets_from(form, fallen) for fallen in lot])
        if more == lot:
            return lot
        lot = more
