"""Torn returns of lean lives, and the two watches that they give."""

from stoodthen.errors import need
from stoodthen.kinds import is_below
from stoodthen.lives import is_lean
from stoodthen.rowtools import unlike_dials


def return_of(life):
    """The torn return (dial, here, there) with the least there, or None."""
    need(is_lean(life), "life")
    turned = turned_dials(life)
    for there in range(1, len(turned)):
        here = last_like(life, turned[there], there)
        if here is not None and is_torn(turned, turned[there], here, there):
            return (turned[there], here, there)
    return None


def turned_dials(life):
    """For each moment of a lean life the dial that is turned to it, None for the first one."""
    dials, spots = life
    rows = [row for row, _ in spots]
    return [None] + [unlike_dials(dials, row, ahead)[0] for row, ahead in zip(rows, rows[1:])]


def last_like(life, dial, there):
    """The last moment before there at which the dial shows what it shows at there, or None."""
    spots = life[1]
    for here in reversed(range(there)):
        if spots[here][0][dial] == spots[there][0][dial]:
            return here
    return None


def is_torn(turned, dial, here, there):
    """Whether the return lacks turns of dials ahead of its dial, or of dials behind it."""
    between = turned[here + 1:there + 1]
    return min(between) == dial or max(between) == dial


def return_watches(life, dial, here, there):
    """The moments of two watches with one view and no stage in common, by a torn return."""
    need(is_lean(life), "life")
    dials, spots = life
    need(is_below(dial, len(dials)), "dial")
    need(is_below(here, len(spots)), "here")
    need(is_below(there, len(spots)), "there")
    turned = turned_dials(life)
    need(turned[there] == dial and last_like(life, dial, there) == here, "there")
    need(is_torn(turned, dial, here, there), "there")
    many = len(dials)
    if min(turned[here + 1:there + 1]) == dial:
        return (moments_by(many, dial + 1, here, there - 1), (there,) * many)
    return ((here,) * many, moments_by(many, dial, here + 1, there))


def moments_by(many, ahead, first, last):
    """Moments for so many looks: the first for those ahead, the last for the others."""
    return (first,) * ahead + (last,) * (many - ahead)
