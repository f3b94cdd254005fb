"""Other lives made of a life: turned back, renamed, reordered, cut, kept."""

from stoodthen.errors import need
from stoodthen.kinds import is_integer, is_names, is_order
from stoodthen.lives import is_lean, stages_many
from stoodthen.rowtools import renamed_row


def turned_back(life):
    """The life with its spots in reverse."""
    dials, spots = life
    last = stages_many(life) - 1
    return (dials, tuple([(row, last - stage) for row, stage in spots[::-1]]))


def renamed_life(life, names):
    """The life with other names for the values of its dials."""
    dials, spots = life
    need(is_names(dials, names), "names")
    return (dials, tuple([(renamed_row(dials, row, names), stage) for row, stage in spots]))


def reordered_life(life, order):
    """The life whose dial k is dial order[k] of life."""
    dials, spots = life
    need(is_order(len(dials), order), "order")
    reordered = [(in_order(row, order), stage) for row, stage in spots]
    return (in_order(dials, order), tuple(reordered))


def in_order(row, order):
    """The entries of row in the sequence that order tells."""
    return tuple([row[place] for place in order])


def cut_life(life, many):
    """The spots of the first many stages."""
    need(is_integer(many) and 1 <= many <= stages_many(life), "many")
    dials, spots = life
    return (dials, tuple([(row, stage) for row, stage in spots if stage < many]))


def kept_life(life, times):
    """The life in which each row of a lean life is kept for times stages."""
    need(is_lean(life), "life")
    need(is_integer(times) and times >= 1, "times")
    dials, spots = life
    kept = [(row, place * times + more) for row, place in spots for more in range(times)]
    return (dials, tuple(kept))
