"""Outlines: forms as they are seen from outside of their boxes.

What is in a box has no part in the truth of a form at a level, if it is
known whether the box stands there. So an outline lists the signs outside of
boxes, depth first, as pairs: the first word, and the text of a letter, an
act or a box, whose truth has to be told (otherwise an empty string).
"""

from boxfall.forms import signs_in
from boxfall.texts import texts_of

TOLD = ("letter", "act", "box")


def outline_of(form):
    """Return the outline of a form."""
    outline = []
    todo = [form]
    while todo:
        sign = todo.pop()
        if sign[0] in TOLD:
            outline.append((sign[0], texts_of(signs_in(sign))[0]))
        else:
            outline.append((sign[0], ""))
            todo.extend(sign[:0:-1])
    return outline


def joined(word, one, other, full):
    """Return the mask of and, or, if over two masks."""
    if word == "and":
        return one & other
    if word == "or":
        return one | other
    return (full ^ one) | other


def mask_of(outline, told, full):
    """Return the mask of an outline, given a dict from texts to masks.

    A mask is an integer with a bit for each of several cases that are looked
    at in one go, 1 where something is true; full has all bits.
    """
    made = []
    for word, text in outline[::-1]:
        if word in TOLD:
            made.append(told[text])
        elif word in ("yes", "no"):
            made.append(full if word == "yes" else 0)
        elif word == "not":
            made.append(full ^ made.pop())
        else:
            made.append(joined(word, made.pop(), made.pop(), full))
    return made[0]
