"""The errors of the package.

The messages are fixed strings: what an error holds may be anything, of any
size, so it is not written into them.
"""


class BoxError(ValueError):
    """Whatever the package refuses."""


class BadForm(BoxError):
    """No form: path leads to the first item that is wrong itself."""

    def __init__(self, path):
        super().__init__("this is no form of a saying")
        self.path = path


class BadText(BoxError):
    """No text of a saying."""


class NoActs(BoxError):
    """A saying has acts where it may have none."""


class NoRow(BoxError):
    """A name has no row or truth where one is needed."""

    def __init__(self, name):
        super().__init__("there is nothing told for a name")
        self.name = name


class BadName(BoxError):
    """No name."""

    def __init__(self, name):
        super().__init__("this is no name")
        self.name = name


class BadRule(BoxError):
    """No rule."""


class NoPlayer(BoxError):
    """A name is no player of the company."""

    def __init__(self, name):
        super().__init__("a name is no player")
        self.name = name


class BadTruth(BoxError):
    """What is told for a name is no truth."""

    def __init__(self, name):
        super().__init__("what is told for a name is no truth")
        self.name = name
