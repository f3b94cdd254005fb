"""Lives: made of rows, and what there is to tell of them."""

from stoodthen.errors import need
from stoodthen.kinds import is_below, is_rows
from stoodthen.rowtools import unlike_dials


def life_of(dials, rows):
    """The life in which each row is a stage of its own."""
    need(is_rows(dials, rows), "rows")
    return (dials, tuple([(row, stage) for stage, row in enumerate(rows)]))


def stages_many(life):
    """How many stages the life has."""
    return life[1][-1][1] + 1


def stage_at(life, moment):
    """The stage of the spot at moment."""
    need(is_below(moment, len(life[1])), "moment")
    return life[1][moment][1]


def is_lean(life):
    """Whether each stage is its place, and each step turns just one dial."""
    dials, spots = life
    if stages_many(life) != len(spots):
        return False
    rows = [row for row, _ in spots]
    for row, ahead in zip(rows, rows[1:]):
        if len(unlike_dials(dials, row, ahead)) != 1:
            return False
    return True


def first_moments(life):
    """For each stage the moment of its first spot."""
    moments = []
    for moment, (_, stage) in enumerate(life[1]):
        if stage == len(moments):
            moments.append(moment)
    return tuple(moments)


def turns_of(life, dial):
    """How many spots have another value of the dial than the spot before."""
    dials, spots = life
    need(is_below(dial, len(dials)), "dial")
    shown = [row[dial] for row, _ in spots]
    return len([value for value, ahead in zip(shown, shown[1:]) if value != ahead])
