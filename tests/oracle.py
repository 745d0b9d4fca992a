"""What the tests compare the program with: the document's words, taken slowly.

Nothing here uses the package. Forms are recursed into, truths at a level
are looked up at all lower levels.
"""

import re

LEAVES = (("yes",), ("no",), ("letter", "p"), ("letter", "q"),
          ("act", "me", "him"), ("act", "him", "me"), ("act", "bob", "me"))
SIGNS = {"not": "~", "box": "#", "and": " & ", "or": " | ", "if": " > "}
ITEMS = {"yes": 1, "no": 1, "letter": 2, "act": 3, "not": 2, "box": 2, "and": 3, "or": 3, "if": 3}


def signs_of(form):
    """All forms in a form, itself first."""
    signs = [form]
    for item in form[1:]:
        if isinstance(item, tuple):
            signs.extend(signs_of(item))
    return signs


def boxes_of(form):
    return {sign for sign in signs_of(form) if sign[0] == "box"}


def text_of(form):
    word = form[0]
    if word in ("yes", "no"):
        return word
    if word == "letter":
        return form[1]
    if word == "act":
        return form[1] + "-" + form[2]
    if word in ("not", "box"):
        return SIGNS[word] + text_of(form[1])
    return "(" + text_of(form[1]) + SIGNS[word] + text_of(form[2]) + ")"


def is_who(thing):
    return (isinstance(thing, str) and re.fullmatch("[a-z]{1,8}", thing) is not None
            and thing not in ("yes", "no", "x"))


def is_name(thing):
    return is_who(thing) and thing not in ("me", "him")


def wrong_path(thing):
    """The path of the first item that is wrong itself, None for a form."""
    if not isinstance(thing, (tuple, list)) or len(thing) == 0:
        return ()
    if not isinstance(thing[0], str) or ITEMS.get(thing[0]) != len(thing):
        return ()
    for at in range(1, len(thing)):
        if thing[0] == "letter":
            path = None if is_name(thing[at]) else ()
        elif thing[0] == "act":
            path = None if is_who(thing[at]) else ()
        else:
            path = wrong_path(thing[at])
        if path is not None:
            return (at,) + path
    return None


def is_text(text):
    """Replace words, then what is joined, by a capital until only one is left."""
    if re.search("[^a-z~#()&|> -]", text):
        return False
    for word in set(re.findall("[a-z-]+", text)):
        parts = word.split("-")
        good = word in ("yes", "no") or is_name(word)
        if not good and not (len(parts) == 2 and is_who(parts[0]) and is_who(parts[1])):
            return False
    text = re.sub("[a-z-]+", "A", text)
    while True:
        less = re.sub(r"[~#]A|\(A [&|>] A\)", "A", text)
        if less == text:
            return text == "A"
        text = less


def truth(form, level, rows, known):
    """The truth of a form at a level; known keeps what was found before."""
    key = (form, level)
    if key not in known:
        known[key] = truth_new(form, level, rows, known)
    return known[key]


def truth_new(form, level, rows, known):
    word = form[0]
    if word in ("yes", "no"):
        return word == "yes"
    if word == "letter":
        row = rows[form[1]]
        return row[level] if level < len(row) else row[-1]
    if word == "not":
        return not truth(form[1], level, rows, known)
    if word == "box":
        return all(truth(form[1], lower, rows, known) for lower in range(level))
    one = truth(form[1], level, rows, known)
    other = truth(form[2], level, rows, known)
    return {"and": one and other, "or": one or other, "if": (not one) or other}[word]


def plain(row):
    """The shortest row that is the same at all levels."""
    for length in range(1, len(row) + 1):
        if all(truth == row[length - 1] for truth in row[length:]):
            return tuple(row[:length])
    return None


def row_of(form, rows):
    """The plain row of a form without acts."""
    longest = max([len(row) for row in rows.values()], default=1)
    known = {}
    levels = range(longest + len(boxes_of(form)) + 2)
    return plain([truth(form, level, rows, known) for level in levels])


def as_form(row):
    """The form of section 4 that has a row."""
    if len(set(row)) == 1:
        return ("yes",) if row[0] else ("no",)
    change = [truth != row[0] for truth in row].index(True)
    begin = ("no",)
    for _ in range(change):
        begin = ("box", begin)
    rest = (row[change],) * change + tuple(row[change:])
    if not row[0]:
        begin = ("not", begin)
    if len(set(rest)) == 1:
        return begin
    return ("or" if row[0] else "and", begin, as_form(rest))


def forms(most, leaves):
    """All forms of at most so many signs over some leaves."""
    by_length = {1: list(leaves)}
    for length in range(2, most + 1):
        found = [(word, form) for word in ("not", "box") for form in by_length[length - 1]]
        for first in range(1, length - 1):
            found.extend((word, one, other) for word in ("and", "or", "if")
                         for one in by_length[first] for other in by_length[length - 1 - first])
        by_length[length] = found
    return [form for length in range(1, most + 1) for form in by_length[length]]


def drawn(source, length, leaves):
    """A form of just so many signs, drawn from a source of chance."""
    if length == 1:
        return source.choice(leaves)
    if length == 2 or source.random() < 0.5:
        return (source.choice(("not", "box")), drawn(source, length - 1, leaves))
    first = source.randint(1, length - 2)
    return (source.choice(("and", "or", "if")), drawn(source, first, leaves),
            drawn(source, length - 1 - first, leaves))


def drawn_row(source, most):
    return tuple(source.random() < 0.5 for _ in range(source.randint(1, most)))
