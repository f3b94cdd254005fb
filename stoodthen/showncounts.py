"""The counts at which a place of the counted row shows a value."""

from stoodthen.errors import need
from stoodthen.kinds import is_below
from stoodthen.rowtools import rows_many
from stoodthen.toandfro import to_or_fro


def next_count(sizes, place, value, count):
    """The least count from this one on with the value at the place, or None."""
    behind, times, here, there = run_of(sizes, place, value, count)
    if there == here:
        return count
    size = sizes[place]
    if there < here:
        times += 1
        there = to_or_fro(size, times, value)
    if times == rows_many(sizes[:place]):
        return None
    return (times * size + there) * behind


def last_count(sizes, place, value, count):
    """The greatest count up to this one with the value at the place, or None."""
    behind, times, here, there = run_of(sizes, place, value, count)
    if there == here:
        return count
    size = sizes[place]
    if there > here:
        times -= 1
        there = to_or_fro(size, times, value)
    if times < 0:
        return None
    return (times * size + there + 1) * behind - 1


def run_of(sizes, place, value, count):
    """How the place goes through its values, to or fro, at the count.

    For how many counts it shows each one, how many runs through all of them came before,
    which step of this run the count is in, and which one shows the value.
    """
    need(is_below(place, len(sizes)), "place")
    need(is_below(value, sizes[place]), "value")
    need(is_below(count, rows_many(sizes)), "count")
    behind = rows_many(sizes[place + 1:])
    times, here = divmod(count // behind, sizes[place])
    return (behind, times, here, to_or_fro(sizes[place], times, value))
