"""The earliest and the latest stages of a nest at which what a view has is seen."""

from stoodthen.errors import Unseen, need
from stoodthen.kinds import is_view
from stoodthen.nestkinds import nest_dials, nest_held, nest_tour
from stoodthen.shows import last_show, next_show


def first_end(nest, view):
    """For each look the least stage, not below that of the look before, or Unseen."""
    looks = nest_looks(nest, view)
    found = found_along(next_show, nest, looks, 0)
    if len(found) < len(looks):
        raise Unseen(len(found))
    return tuple(found)


def last_begin(nest, view):
    """For each look the greatest stage, not above that of the look behind it, or Unseen."""
    looks = nest_looks(nest, view)
    found = found_along(last_show, nest, looks[::-1], nest_held(nest) - 1)
    if len(found) < len(looks):
        raise Unseen(len(looks) - 1 - len(found))
    return tuple(found[::-1])


def nest_looks(nest, view):
    """For each look of the nest's tour the pair of its dial and what the view has for it."""
    tour = nest_tour(nest)
    need(is_view(nest_dials(nest), tour, view), "view")
    return list(zip(tour, view))


def found_along(shows, where, looks, begin):
    """What shows finds, where it is to, for one look after another, until it finds nothing."""
    found = []
    at = begin
    for dial, value in looks:
        at = shows(where, dial, value, at)
        if at is None:
            break
        found.append(at)
    return found
