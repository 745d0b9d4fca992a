"""The texts of forms, written and read."""

from boxfall.errors import BadText
from boxfall.forms import FORMS_IN, is_name, is_small, is_who

AHEAD = {"not": "~", "box": "#"}
AHEAD_WORDS = {"~": "not", "#": "box"}
BETWEEN = {"and": " & ", "or": " | ", "if": " > "}
BETWEEN_WORDS = {" & ": "and", " | ": "or", " > ": "if"}


def text_with(sign, inner):
    """Return the text of a sign, given the texts of the forms in it."""
    word = sign[0]
    if word == "letter":
        return sign[1]
    if word == "act":
        return f"{sign[1]}-{sign[2]}"
    if word in AHEAD:
        return AHEAD[word] + inner[0]
    if word in BETWEEN:
        return f"({inner[0]}{BETWEEN[word]}{inner[1]})"
    return word


def texts_of(signs):
    """Return the texts of all the signs of a form, which are told depth first."""
    texts = []
    made = []
    for sign in signs[::-1]:
        inner = [made.pop() for _ in range(FORMS_IN[sign[0]])]
        text = text_with(sign, inner)
        made.append(text)
        texts.append(text)
    return texts[::-1]


def piece_at(text, at):
    """Return the piece of a text that begins at a place; BadText if none does."""
    if text[at] in "~#()":
        return text[at]
    if text[at:at + 3] in BETWEEN_WORDS:
        return text[at:at + 3]
    end = at
    while end < len(text) and (is_small(text[end]) or text[end] == "-"):
        end += 1
    if end == at:
        raise BadText()
    return text[at:end]


def pieces_of(text):
    """Return the pieces of which a text consists, in their order."""
    pieces = []
    at = 0
    while at < len(text):
        piece = piece_at(text, at)
        pieces.append(piece)
        at += len(piece)
    return pieces


def leaf(piece):
    """Return the form of a piece of letters and dashes; BadText if it has none."""
    if piece in ("yes", "no"):
        return (piece,)
    if is_name(piece):
        return ("letter", piece)
    words = piece.split("-")
    if len(words) == 2 and is_who(words[0]) and is_who(words[1]):
        return ("act", words[0], words[1])
    raise BadText()


def are_forms(things):
    """Tell of each thing whether it is a form read already, or a piece still to be joined."""
    return [isinstance(thing, tuple) for thing in things]


def prefixed(piece, behind):
    """Return the form of `~` or `#` ahead of what was read behind it."""
    if are_forms(behind) != [True]:
        raise BadText()
    return (AHEAD_WORDS[piece], behind[0])


def bracketed(behind):
    """Return the form of what was read behind `(`: four things, the nearest one last."""
    if are_forms(behind) != [False, True, False, True]:
        raise BadText()
    if behind[0] != ")" or behind[2] not in BETWEEN_WORDS:
        raise BadText()
    return (BETWEEN_WORDS[behind[2]], behind[3], behind[1])


def form_of(text):
    """Return the form with a text; BadText if there is none.

    The pieces are taken from the last one on: what a sign stands ahead of
    is then read already.
    """
    read = []
    for piece in pieces_of(text)[::-1]:
        if piece in AHEAD_WORDS:
            read[-1:] = [prefixed(piece, read[-1:])]
        elif piece == "(":
            read[-4:] = [bracketed(read[-4:])]
        elif piece == ")" or piece in BETWEEN_WORDS:
            read.append(piece)
        else:
            read.append(leaf(piece))
    if are_forms(read) != [True]:
        raise BadText()
    return read[0]
