"""Rows: the truths at the levels 0, 1, 2, .. as tuples, the last one for ever."""

from boxfall.errors import NoRow
from boxfall.sayings import no, yes
from boxfall.walks import WHOLE, levels_of, walk_of


def plain(row):
    """Return the shortest row that is the same at all levels."""
    end = len(row)
    while end > 1 and row[end - 1] == row[end - 2]:
        end -= 1
    return tuple(row[:end])


def height(row):
    """Return the least level from which on a row is true for ever, None if there is none."""
    shortest = plain(row)
    if not shortest[-1]:
        return None
    return len(shortest) - 1


def row_of_text(levels, text):
    """Return the plain row of what has a text, given what is told at the levels."""
    return plain([told[text] == 1 for told in levels])


def row_of(saying, rows):
    """Return the plain row of a saying; NoActs if it has acts, NoRow for a letter without a row."""
    walk = walk_of(saying)
    for name in walk.free:
        if name not in rows:
            raise NoRow(name)
    levels = levels_of(walk, {name: plain(rows[name]) for name in walk.free})
    return row_of_text(levels, WHOLE)


def below(level):
    """Return the saying that is true just below a level: `no` with so many boxes ahead."""
    saying = no()
    for _ in range(level):
        saying = +saying
    return saying


def up_to(level, truth):
    """Return the saying that has a truth below a level and the other one from there on."""
    return below(level) if truth else ~below(level)


def as_saying(row):
    """Return the saying made of `no` alone that has a row."""
    changes = [level for level in range(1, len(row)) if row[level] != row[level - 1]]
    if not changes:
        return yes() if row[0] else no()
    last = changes.pop()
    saying = up_to(last, row[last - 1])
    for level in changes[::-1]:
        begin = up_to(level, row[level - 1])
        saying = begin | saying if row[level - 1] else begin & saying
    return saying
