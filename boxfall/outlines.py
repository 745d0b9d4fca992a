"""Outlines: forms as they are seen from outside of their boxes.

What is in a box has no part in the truth of a form at a level, if it is
known whether the box stands there. So an outline lists the signs outside of
boxes, depth first, as pairs: the first word, and the text of a letter, an
act or a box, whose truth has to be told (otherwise an empty string).
"""

from boxfall.forms import signs_of
from boxfall.texts import texts_of

TOLD = ("letter", "act", "box")


def outline_of(form):
    """Return the outline of a form."""
    outline = []
    todo = [form]
    while todo:
        sign = todo.pop()
        if sign[0] in TOLD:
            outline.append((sign[0], texts_of(signs_of(sign))[0]))
        else:
            outline.append((sign[0], ""))
            todo.extend(sign[:0:-1])
    return outline


def joined(word, one, other):
    """Return the truth of and, or, if over two truths."""
    if word == "and":
        return one and other
    if word == "or":
        return one or other
    return not one or other


def truth_of(outline, told):
    """Return the truth of an outline, given a dict from texts to truths."""
    made = []
    for word, text in outline[::-1]:
        if word in TOLD:
            made.append(told[text])
        elif word in ("yes", "no"):
            made.append(word == "yes")
        elif word == "not":
            made.append(not made.pop())
        else:
            made.append(joined(word, made.pop(), made.pop()))
    return made[0]
