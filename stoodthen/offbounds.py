"""Bounds and numbers of stages if answers may be off."""

from stoodthen.errors import need
from stoodthen.gaps import tour_bound
from stoodthen.kinds import is_number, is_stages, is_tour
from stoodthen.looknumbers import most_held


def stages_each(off):
    """For how many stages a row may be kept if answers may be off by so much."""
    return 2 * off + 1


def off_bound(dials, tour, off):
    """The bound of the tour if answers may be off."""
    need(is_tour(dials, tour), "tour")
    need(is_number(off), "off")
    return stages_each(off) * tour_bound(dials, tour)


def off_held(dials, looks, off):
    """The most stages that so many looks hold if answers may be off."""
    need(is_number(looks), "looks")
    need(is_number(off), "off")
    return stages_each(off) * most_held(dials, looks)


def off_line(dials, off):
    """The most stages of a line that may go to and fro if answers may be off."""
    need(is_number(off), "off")
    return stages_each(off) * (1 + sum([size - 1 for size in dials]))


def off_least(dials, looks, stages):
    """The least off by which so many looks hold so many stages."""
    need(is_number(looks), "looks")
    need(is_stages(stages), "stages")
    held = most_held(dials, looks)
    times = (stages + held - 1) // held
    return times // 2
