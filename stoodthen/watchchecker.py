"""The checker of watches."""

from stoodthen.errors import InvalidPaper, need
from stoodthen.kinds import is_tour, is_tuple_of
from stoodthen.views import is_moments, is_walk_of, watch_view


def lets_watch(machine, tour, thing):
    """The view of the watch by the tour; InvalidPaper if thing is none."""
    need(is_tour(machine[0], tour), "tour")
    if not is_tuple_of(thing, 2):
        raise InvalidPaper("shape", -1)
    walk, moments = thing
    if not is_walk_of(machine, len(tour), walk):
        raise InvalidPaper("walk", -1)
    if not is_moments(walk, len(tour), moments):
        raise InvalidPaper("moments", -1)
    return watch_view(machine, tour, walk, moments)
