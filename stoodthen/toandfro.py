"""To count to and fro: rows in which from each to the next just one value changes by one."""

from stoodthen.errors import need
from stoodthen.kinds import is_below, is_row
from stoodthen.rowtools import rows_many


def counted_row(sizes, count):
    """The counted row of the count."""
    need(is_below(count, rows_many(sizes)), "count")
    values = []
    rest = count
    for size in reversed(sizes):
        rest, value = divmod(rest, size)
        values.append(to_or_fro(size, rest, value))
    return tuple(values[::-1])


def to_or_fro(size, times, value):
    """The value, from the other end of the size if it was gone through an odd number of times."""
    return value if times % 2 == 0 else size - 1 - value


def count_by(sizes, row):
    """The count with this counted row."""
    need(is_row(sizes, row), "row")
    count = 0
    for size, value in zip(sizes, row):
        count = count * size + to_or_fro(size, count, value)
    return count


def turned_place(sizes, count):
    """The place at which the counted rows of the count before and of this one differ."""
    need(is_below(count, rows_many(sizes)) and count > 0, "count")
    place = len(sizes) - 1
    rest = count
    while rest % sizes[place] == 0:
        rest //= sizes[place]
        place -= 1
    return place


def place_turns(sizes, place):
    """How often the value at the place changes from a count to the next one."""
    need(is_below(place, len(sizes)), "place")
    return (sizes[place] - 1) * rows_many(sizes[:place])
