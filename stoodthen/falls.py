"""Rows of watches: which told stages fall, and what is told by who remembers."""

from stoodthen.errors import need
from stoodthen.kinds import is_number, is_tuple_of


def fallen_pairs(rows):
    """All pairs (k, j) of places such that row j begins behind the end of row k, and tells less."""
    need(is_watch_rows(rows), "rows")
    places = list(range(len(rows)))
    return tuple([(one, other) for one in places for other in places if falls(rows[one], rows[other])])


def falls(row, other):
    """Whether the other row begins behind the end of row, and tells a lower stage."""
    return row[2] < other[1] and row[4] > other[4]


def fall_depth(rows):
    """The greatest difference of two such stages, 0 if there are none."""
    return max([rows[one][4] - rows[other][4] for one, other in fallen_pairs(rows)], default=0)


def remembered(rows):
    """For each row the greatest stage of this row and of those before it with the same who."""
    need(is_watch_rows(rows), "rows")
    greatest = {}
    told = []
    for who, _, _, _, stage in rows:
        greatest[who] = max(stage, greatest.get(who, stage))
        told.append(greatest[who])
    return tuple(told)


def is_watch_rows(thing):
    """Whether thing is a tuple of rows (who, begin, end, view, stage)."""
    return isinstance(thing, tuple) and all([is_watch_row(row) for row in thing])


def is_watch_row(thing):
    """Whether thing is such a row: numbers, and a view of numbers, which begins not behind its end."""
    if not is_tuple_of(thing, 5):
        return False
    who, begin, end, view, stage = thing
    if not (isinstance(view, tuple) and all([is_number(number) for number in (who, begin, end, stage, *view)])):
        return False
    return begin <= end
