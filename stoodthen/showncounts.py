"""The counts at which a place of the counted row shows a value."""

from stoodthen.errors import need
from stoodthen.kinds import is_below
from stoodthen.rowtools import rows_many
from stoodthen.toandfro import to_or_fro


def need_shown(sizes, place, value, count):
    """Refuse what is no place of the sizes, no value there, or no count."""
    need(is_below(place, len(sizes)), "place")
    need(is_below(value, sizes[place]), "value")
    need(is_below(count, rows_many(sizes)), "count")


def next_count(sizes, place, value, count):
    """The least count from this one on with the value at the place, or None."""
    need_shown(sizes, place, value, count)
    size = sizes[place]
    behind = rows_many(sizes[place + 1:])
    times, here = divmod(count // behind, size)
    there = to_or_fro(size, times, value)
    if there == here:
        return count
    if there < here:
        times += 1
        there = to_or_fro(size, times, value)
    if times == rows_many(sizes[:place]):
        return None
    return (times * size + there) * behind


def last_count(sizes, place, value, count):
    """The greatest count up to this one with the value at the place, or None."""
    need_shown(sizes, place, value, count)
    size = sizes[place]
    behind = rows_many(sizes[place + 1:])
    times, here = divmod(count // behind, size)
    there = to_or_fro(size, times, value)
    if there == here:
        return count
    if there > here:
        times -= 1
        there = to_or_fro(size, times, value)
    if times < 0:
        return None
    return (times * size + there + 1) * behind - 1
