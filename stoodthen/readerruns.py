"""Readers that are shown one row: which steps they go through, what they tell."""

from stoodthen.errors import need
from stoodthen.kinds import is_row
from stoodthen.readerchecker import is_reader


def shown(dials, reader, row):
    """The pair of the steps gone through and the stage told, None if none is."""
    need(is_reader(dials, reader), "reader")
    need(is_row(dials, row), "row")
    gone = {}
    at = 0
    while at not in gone:
        gone[at] = True
        step = reader[at]
        if step[0] == "tell":
            return (tuple(gone), step[1])
        at = step[2][row[step[1]]]
    return (tuple(gone), None)


def told_stages(dials, reader):
    """The lot of the stages of all "tell" steps."""
    need(is_reader(dials, reader), "reader")
    return tuple(sorted({step[1] for step in reader if step[0] == "tell"}))


def tour_of(dials, reader, row):
    """The tour of the looks among the steps that are gone through."""
    steps, _ = shown(dials, reader, row)
    return tuple([reader[step][1] for step in steps if reader[step][0] == "look"])
