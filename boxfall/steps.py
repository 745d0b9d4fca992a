"""Steps: from sets of fallen boxes to the next ones, with all choices of what is free.

A set is a number here, with the bits of the places of its boxes; callers are
told the ascending tuple of the places. A CHOICE is a number that tells a
truth of each thing that is free: in binary, with one digit for each, the
first one's ahead, 0 for False. So lesser choices come first where rows are
written level by level. A mask has a bit for each choice.
"""

from boxfall.outlines import mask_of


def digit_of(choice, at, many):
    """Return the digit of a choice for one of many things that are free."""
    return (choice >> (many - 1 - at)) & 1


def choice_of(truths):
    """Return the choice that tells some truths."""
    choice = 0
    for truth in truths:
        choice = 2 * choice + (1 if truth else 0)
    return choice


def masks_of(free):
    """Return the dict from all that is free to the masks of the choices in which it is true."""
    many = len(free)
    masks = {}
    for at, text in enumerate(free):
        masks[text] = sum([digit_of(choice, at, many) << choice for choice in range(1 << many)])
    return masks


def rows_of(choices, names):
    """Return the dict from names to rows, given a choice for each level."""
    many = len(names)
    return {name: tuple([digit_of(choice, at, many) == 1 for choice in choices])
            for at, name in enumerate(names)}


def set_of(places):
    """Return the set of the boxes at some places."""
    return sum([1 << place for place in places])


def places_of(fallen):
    """Return the places of the boxes in a set, ascending."""
    return tuple([place for place in range(fallen.bit_length()) if (fallen >> place) & 1])


class Steps:
    """The steps of a walk. What was found is kept, as much of it is asked for again and again.

    A box is SURE if nothing free has a part in whether it falls. Sure boxes
    fall in the same way with all choices, so there is one set of them at each
    level, however many sets of the other boxes there are.
    """

    def __init__(self, walk):
        self.size = len(walk.inner)
        self.many = 1 << len(walk.free)
        self.full = (1 << self.many) - 1
        self._free = masks_of(walk.free)
        self._bits = {text: 1 << place for place, text in enumerate(walk.inner)}
        self._asked = walk.asked
        self._outlines = {**walk.inner, **walk.asked}
        self._bases = {text: self._base_of(self._outlines[text]) for text in self._outlines}
        self._masks = {text: {} for text in self._outlines}
        unsure = self._unsure_boxes()
        self._sure_texts = [text for text in self._bits if not self._bits[text] & unsure]
        self._unsure_texts = [text for text in self._bits if self._bits[text] & unsure]
        self._sure = sum([self._bits[text] for text in self._sure_texts])
        self._sure_down = {}
        self._behind = {}

    def _base_of(self, outline):
        """Return the set of the boxes on which the truth of an outline hangs, with one place more for what is free."""
        base = 0
        for word, text in outline:
            if word == "box":
                base |= self._bits[text]
            elif text in self._free:
                base |= 1 << self.size
            elif word == "act":
                base |= self._base_of(self._asked[text])
        return base

    def _unsure_boxes(self):
        """Return the set of the boxes that are not sure, with the place for what is free."""
        found = 1 << self.size
        before = 0
        while found != before:
            before = found
            for text in self._bits:
                if self._bases[text] & found:
                    found |= self._bits[text]
        return found

    def _mask_of(self, outline, fallen):
        """Return the mask of an outline at a set."""
        told = {}
        for word, text in outline:
            if word == "box":
                told[text] = 0 if fallen & self._bits[text] else self.full
            elif text in self._free:
                told[text] = self._free[text]
            elif word == "act":
                told[text] = self.mask_at(text, fallen)
        return mask_of(outline, told, self.full)

    def mask_at(self, text, fallen):
        """Return the mask of what is asked for, or of what is in a box, at a set."""
        masks = self._masks[text]
        counting = fallen & self._bases[text]
        if counting not in masks:
            masks[counting] = self._mask_of(self._outlines[text], counting)
        return masks[counting]

    def _falling(self, texts, fallen):
        """Return the pairs of bit and mask of the standing boxes among some that fall with some choices."""
        found = []
        for text in texts:
            if not fallen & self._bits[text]:
                mask = self.full ^ self.mask_at(text, fallen)
                if mask:
                    found.append((self._bits[text], mask))
        return found

    def _sets_behind(self, fallen):
        """Return the list of the sets to which the choices lead from a set."""
        sure = fallen & self._sure
        if sure not in self._sure_down:
            self._sure_down[sure] = sum([bit for bit, _ in self._falling(self._sure_texts, sure)])
        down = fallen | self._sure_down[sure]
        falling = self._falling(self._unsure_texts, fallen)
        return [down + sum([bit for bit, mask in falling if (mask >> choice) & 1]) for choice in range(self.many)]

    def sets_from(self, fallen):
        """Return the list of the sets to which the choices lead from a set, found once."""
        if fallen not in self._behind:
            self._behind[fallen] = self._sets_behind(fallen)
        return self._behind[fallen]


def reached_sets(steps):
    """Return the list of all sets that are reached from the empty one."""
    seen = {0: True}
    todo = [0]
    while todo:
        fallen = todo.pop()
        for behind in steps.sets_from(fallen):
            if behind not in seen:
                seen[behind] = True
                todo.append(behind)
    return list(seen)


def least_lot(steps):
    """Return the least lot, as callers are told it: ascending tuples of places."""
    return sorted([places_of(fallen) for fallen in reached_sets(steps)])


def set_after(steps, choices):
    """Return the set to which some choices lead from the empty one."""
    fallen = 0
    for choice in choices:
        fallen = steps.sets_from(fallen)[choice]
    return fallen


def rest_of(steps, fallen, choice):
    """Return the set at which a choice comes to rest from a set."""
    behind = steps.sets_from(fallen)[choice]
    while behind != fallen:
        fallen = behind
        behind = steps.sets_from(fallen)[choice]
    return fallen


def set_in(thing, many):
    """Return the set that is told by any object, None if it is none of so many boxes."""
    if not isinstance(thing, (list, tuple)):
        return None
    least = 0
    for place in thing:
        if not isinstance(place, int) or isinstance(place, bool) or not least <= place < many:
            return None
        least = place + 1
    return set_of(thing)


def sets_in(thing, many):
    """Return the list of the sets, none twice, that are told by any object, None if it tells none."""
    if not isinstance(thing, (list, tuple)):
        return None
    sets = [set_in(item, many) for item in thing]
    if None in sets or len(set(sets)) < len(sets):
        return None
    return sets


def lot_in(steps, thing):
    """Return the lot that is told by any object, a list of sets, None if it tells none."""
    sets = sets_in(thing, steps.size)
    if sets is None or 0 not in sets:
        return None
    among = {fallen: True for fallen in sets}
    for fallen in sets:
        if not all([behind in among for behind in steps.sets_from(fallen)]):
            return None
    return sets
