"""Sayings about what can be shown."""

from boxfall.forms import signs_of
from boxfall.outlines import outline_of
from boxfall.texts import form_of, texts_of


class Saying:
    """A saying: an object for a form."""

    def __init__(self, form):
        self._signs = signs_of(form)
        self._form = self._signs[0]

    @classmethod
    def read(cls, text):
        """Return the saying with a text; BadText if there is none."""
        return cls(form_of(text))

    def form(self):
        """Return the form, tuples throughout."""
        return self._form

    def text(self):
        """Return the text."""
        return texts_of(self._signs)[0]

    def letters(self):
        """Return the names of the letters, ascending, each once."""
        return sorted({sign[1] for sign in self._signs if sign[0] == "letter"})

    def acts(self):
        """Return the pairs (who, whom) of the acts, ascending, each once."""
        return sorted({(sign[1], sign[2]) for sign in self._signs if sign[0] == "act"})

    def boxes(self):
        """Return the boxes as sayings, inner ones too, by ascending texts, each once."""
        texts = texts_of(self._signs)
        found = {text: sign for text, sign in zip(texts, self._signs) if sign[0] == "box"}
        return [Saying(found[text]) for text in sorted(found)]

    def is_boxed(self):
        """Tell whether all acts and letters stand within boxes."""
        return all([word not in ("letter", "act") for word, _ in outline_of(self._form)])

    def __len__(self):
        return len(self._signs)

    def __eq__(self, other):
        return isinstance(other, Saying) and self._form == other._form

    def __invert__(self):
        return Saying(("not", self._form))

    def __pos__(self):
        return Saying(("box", self._form))

    def __and__(self, other):
        if not isinstance(other, Saying):
            return NotImplemented
        return Saying(("and", self._form, other._form))

    def __or__(self, other):
        if not isinstance(other, Saying):
            return NotImplemented
        return Saying(("or", self._form, other._form))

    def __rshift__(self, other):
        if not isinstance(other, Saying):
            return NotImplemented
        return Saying(("if", self._form, other._form))


def yes():
    """Return the saying that is always true."""
    return Saying(("yes",))


def no():
    """Return the saying that is never true."""
    return Saying(("no",))


def letter(name):
    """Return the saying that is a letter; BadForm if its name is none."""
    return Saying(("letter", name))


def act(who, whom):
    """Return the saying that who keeps with whom; BadForm for a wrong word."""
    return Saying(("act", who, whom))
