"""Rows: the truths at the levels 0, 1, 2, .. as tuples, the last one for ever."""

from boxfall.errors import NoActs, NoRow
from boxfall.outlines import outline_of, truth_of
from boxfall.sayings import no, yes


def plain(row):
    """Return the shortest row that is the same at all levels."""
    end = len(row)
    while end > 1 and row[end - 1] == row[end - 2]:
        end -= 1
    return tuple(row[:end])


def height(row):
    """Return the least level from which on a row is true for ever, None if there is none."""
    shortest = plain(row)
    if not shortest[-1]:
        return None
    return len(shortest) - 1


def at_level(row, level):
    """Return the truth of a row at a level."""
    return row[min(level, len(row) - 1)]


def walk(saying, rows):
    """Return the truths of a saying up to the level from which on nothing changes.

    That is the first one at which all letters have their last truths and no
    box falls: the next level is then like it, and so are all behind it.
    """
    whole = outline_of(saying.form())
    inner = {box.text(): outline_of(box.form()[1]) for box in saying.boxes()}
    standing = {text: True for text in inner}
    last = max([len(rows[name]) for name in rows], default=1) - 1
    truths = []
    while True:
        level = len(truths)
        letters = {name: at_level(rows[name], level) for name in rows}
        told = {**standing, **letters}
        truths.append(truth_of(whole, told))
        falling = [text for text in inner if standing[text] and not truth_of(inner[text], told)]
        if level >= last and not falling:
            return truths
        for text in falling:
            standing[text] = False


def row_of(saying, rows):
    """Return the plain row of a saying; NoActs if it has acts, NoRow for a letter without a row."""
    if saying.acts():
        raise NoActs()
    letters = saying.letters()
    for name in letters:
        if name not in rows:
            raise NoRow(name)
    return plain(walk(saying, {name: rows[name] for name in letters}))


def below(level):
    """Return the saying that is true just below a level: `no` with so many boxes ahead."""
    saying = no()
    for _ in range(level):
        saying = +saying
    return saying


def up_to(level, truth):
    """Return the saying that has a truth below a level and the other one from there on."""
    return below(level) if truth else ~below(level)


def as_saying(row):
    """Return the saying made of `no` alone that has a row."""
    changes = [level for level in range(1, len(row)) if row[level] != row[level - 1]]
    if not changes:
        return yes() if row[0] else no()
    last = changes.pop()
    saying = up_to(last, row[last - 1])
    for level in changes[::-1]:
        begin = up_to(level, row[level - 1])
        saying = begin | saying if row[level - 1] else begin & saying
    return saying
