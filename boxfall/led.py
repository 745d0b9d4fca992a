"""Led meetings: a meeting with the stranger, led level by level."""

from boxfall.errors import BadTruth, NoRow
from boxfall.facing import alone
from boxfall.steps import choice_of, places_of, set_of


def check_truths(names, truths):
    """Raise NoRow for the first of some names that is not in a dict, then BadTruth for one without a truth there."""
    for name in names:
        if name not in truths:
            raise NoRow(name)
    for name in names:
        if not isinstance(truths[name], bool):
            raise BadTruth(name)


class Led:
    """A meeting led by the stranger's acts.

    level; fallen: the present set; row: the acts of the player up to the
    present level.
    """

    def __init__(self, company, name):
        self._company = company.twin()
        self._facing = alone(company, name)
        self._name = name
        self._earlier = ()
        self.level = 0
        self.fallen = ()
        self.row = (self._facing.keeps(name, 0),)

    def go(self, truths):
        """Tell the stranger's acts at the present level, go to the next one and return the player's act there.

        NoRow for the least of those met who is not told, then BadTruth for the least one without a truth.
        """
        check_truths(self._facing.met, truths)
        choice = choice_of([truths[one] for one in self._facing.met])
        behind = self._facing.steps.sets_from(set_of(self.fallen))[choice]
        act = self._facing.keeps(self._name, behind)
        self._earlier = self._earlier + (self.fallen,)
        self.level += 1
        self.fallen = places_of(behind)
        self.row = self.row + (act,)
        return act

    def undo(self):
        """Take back the last go that is not taken back; tell whether there was one."""
        if not self._earlier:
            return False
        self.level -= 1
        self.fallen = self._earlier[-1]
        self.row = self.row[:-1]
        self._earlier = self._earlier[:-1]
        return True

    def trial(self, work):
        """Return what work returns of this led meeting, which is behind it as it was before."""
        earlier, level, fallen, row = self._earlier, self.level, self.fallen, self.row
        try:
            return work(self)
        finally:
            self._earlier, self.level, self.fallen, self.row = earlier, level, fallen, row

    def twin(self):
        """Return another led meeting that is as this one is."""
        twin = Led(self._company, self._name)
        twin._earlier, twin.level, twin.fallen, twin.row = self._earlier, self.level, self.fallen, self.row
        return twin
