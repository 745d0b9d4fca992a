"""Walks: boxes that fall from level to level, and what hangs on them.

What is true or false at a level goes by its text: boxes, what is told from
outside level by level (letters, or acts of the stranger), and what is asked
for (a saying, or acts of players, each of which is its rule).
"""

from boxfall.errors import NoActs
from boxfall.forms import signs_of
from boxfall.outlines import mask_of, outline_of
from boxfall.texts import texts_of

# No form has this text, so a saying that is asked for can go by it.
WHOLE = ""


class Walk:
    """What a walk goes by.

    inner: the dict from the texts of the boxes, ascending, to the outlines
    of what is in them; asked: the dict from the texts of what is asked for
    to its outlines; free: the ascending list of the texts of what is told
    from outside.
    """

    def __init__(self, inner, asked, free):
        self.inner = inner
        self.asked = asked
        self.free = free


def inner_of(several):
    """Return the dict from the texts of all boxes, ascending, to the outlines of what is in them.

    Several forms are told, each by the list of its signs.
    """
    found = {}
    for signs in several:
        for text, sign in zip(texts_of(signs), signs):
            if sign[0] == "box" and text not in found:
                found[text] = outline_of(sign[1])
    return {text: found[text] for text in sorted(found)}


def walk_of(saying):
    """Return the walk of a saying, which is asked for as WHOLE; NoActs if it has acts."""
    if saying.acts():
        raise NoActs()
    signs = signs_of(saying.form())
    return Walk(inner_of([signs]), {WHOLE: outline_of(signs[0])}, saying.letters())


def with_asked(walk, told, full):
    """Return the masks that are told of boxes and of what is free, and those of what is asked for."""
    asked = {text: mask_of(walk.asked[text], told, full) for text in walk.asked}
    return {**told, **asked}


def at_level(row, level):
    """Return the truth of a row at a level."""
    return row[min(level, len(row) - 1)]


def levels_of(walk, rows):
    """Return what is told at the levels up to the first one from which on nothing changes.

    rows is the dict from what is free to plain rows. Behind the last change
    of a row the next level is like one at which no box falls, and so are
    all behind it.
    """
    last = max([len(rows[text]) for text in rows], default=1) - 1
    standing = {text: True for text in walk.inner}
    levels = []
    while True:
        level = len(levels)
        free = {text: at_level(rows[text], level) for text in rows}
        told = with_asked(walk, {**standing, **free}, 1)
        levels.append(told)
        falling = [text for text in standing if standing[text] and not mask_of(walk.inner[text], told, 1)]
        if level >= last and not falling:
            return levels
        for text in falling:
            standing[text] = False
