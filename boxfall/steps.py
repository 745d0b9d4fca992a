"""Steps: from sets of fallen boxes to the next ones, with all choices of what is free.

A set is the ascending tuple of the places of its boxes. A CHOICE is a number
that tells a truth of each thing that is free: in binary, with one digit for
each, the first one's ahead, 0 for False. So lesser choices come first where
rows are written level by level. A mask has a bit for each choice.
"""

from boxfall.outlines import mask_of
from boxfall.walks import with_asked


def digit_of(choice, at, many):
    """Return the digit of a choice for one of many things that are free."""
    return (choice >> (many - 1 - at)) & 1


def masks_of(free):
    """Return the dict from all that is free to the masks of the choices in which it is true."""
    many = len(free)
    masks = {}
    for at, text in enumerate(free):
        masks[text] = sum([digit_of(choice, at, many) << choice for choice in range(1 << many)])
    return masks


def rows_of(choices, names):
    """Return the dict from names to rows, given a choice for each level."""
    many = len(names)
    return {name: tuple([digit_of(choice, at, many) == 1 for choice in choices])
            for at, name in enumerate(names)}


def least_choice(mask):
    """Return the least choice in a mask that has one."""
    choice = 0
    while not (mask >> choice) & 1:
        choice += 1
    return choice


class Steps:
    """The steps of a walk."""

    def __init__(self, walk):
        self.walk = walk
        self.masks = masks_of(walk.free)
        self.full = (1 << (1 << len(walk.free))) - 1

    def told_at(self, fallen):
        """Return the dict from all texts to their masks at a set."""
        boxes = {text: 0 if place in fallen else self.full for place, text in enumerate(self.walk.inner)}
        return with_asked(self.walk, {**boxes, **self.masks}, self.full)

    def sets_from(self, fallen):
        """Return the list of the sets to which the choices lead from a set."""
        told = self.told_at(fallen)
        down = []
        for text in self.walk.inner:
            stays = mask_of(self.walk.inner[text], told, self.full) if told[text] else 0
            down.append(self.full ^ stays)
        return [tuple([place for place, mask in enumerate(down) if (mask >> choice) & 1])
                for choice in range(1 << len(self.walk.free))]


def least_lot(steps):
    """Return the least lot, ascending."""
    found = {(): True}
    todo = [()]
    while todo:
        for fallen in steps.sets_from(todo.pop()):
            if fallen not in found:
                found[fallen] = True
                todo.append(fallen)
    return sorted(found)


def set_in(thing, many):
    """Return the set that is told by any object, None if it is none of so many boxes."""
    if not isinstance(thing, (list, tuple)):
        return None
    least = 0
    for place in thing:
        if not isinstance(place, int) or isinstance(place, bool) or not least <= place < many:
            return None
        least = place + 1
    return tuple(thing)


def sets_in(thing, many):
    """Return the list of the sets, none twice, that are told by any object, None if it tells none."""
    if not isinstance(thing, (list, tuple)):
        return None
    sets = [set_in(item, many) for item in thing]
    if None in sets or len(set(sets)) < len(sets):
        return None
    return sets


def lot_in(steps, thing):
    """Return the lot that is told by any object, a list of sets, None if it tells none."""
    sets = sets_in(thing, len(steps.walk.inner))
    if sets is None or () not in sets:
        return None
    among = {fallen: True for fallen in sets}
    for fallen in sets:
        if not all([behind in among for behind in steps.sets_from(fallen)]):
            return None
    return sets
