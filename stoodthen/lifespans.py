"""The earliest and the latest moments of a life at which what a view has is seen."""

from stoodthen.errors import Unseen, need
from stoodthen.kinds import is_tour, is_view
from stoodthen.lives import stage_at
from stoodthen.viewspans import found_along


def early_moments(life, tour, view):
    """For each look the least moment, not below that of the look before, or Unseen."""
    need_looks(life, tour, view)
    found = moments_forth(life, tour, view)
    if len(found) < len(tour):
        raise Unseen(len(found))
    return tuple(found)


def late_moments(life, tour, view):
    """For each look the greatest moment, not above that of the look behind it, or Unseen."""
    need_looks(life, tour, view)
    found = moments_back(life, tour, view)
    if len(found) < len(tour):
        raise Unseen(len(tour) - 1 - len(found))
    return tuple(found[::-1])


def need_looks(life, tour, view):
    """Refuse what is no tour of the life's dials, or (), and what is no view of it."""
    need(is_tour(life[0], tour) and tour != (), "tour")
    need(is_view(life[0], tour, view), "view")


def moments_forth(life, tour, view):
    """The early moments from the first look on, as far as there are any."""
    return found_along(next_moment, life, list(zip(tour, view)), 0)


def moments_back(life, tour, view):
    """The late moments from the last look back, as far as there are any."""
    return found_along(last_moment, life, list(zip(tour, view))[::-1], len(life[1]) - 1)


def next_moment(life, dial, value, moment):
    """The least moment from this one on at which the dial shows the value, or None."""
    spots = life[1]
    for at in range(moment, len(spots)):
        if spots[at][0][dial] == value:
            return at
    return None


def last_moment(life, dial, value, moment):
    """The greatest moment up to this one at which the dial shows the value, or None."""
    spots = life[1]
    for at in reversed(range(moment + 1)):
        if spots[at][0][dial] == value:
            return at
    return None


def life_span(life, tour, view):
    """The least and the greatest stage that are right for the view, None if there is none."""
    last = stage_at(life, early_moments(life, tour, view)[-1])
    first = stage_at(life, late_moments(life, tour, view)[0])
    return (first, last) if first <= last else None
