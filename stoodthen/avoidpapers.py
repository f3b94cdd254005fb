"""Papers that show a tour not to be safe for a machine."""

from stoodthen.errors import InvalidPaper, need
from stoodthen.kinds import is_tour, is_tuple_of, is_view
from stoodthen.machines import stages_of
from stoodthen.rightstages import avoiding_watch, first_torn
from stoodthen.views import stages_met
from stoodthen.watchchecker import lets_watch


def avoid_paper(machine, tour):
    """A view, and for each stage a watch with it that does not meet the stage, or None."""
    need(is_tour(machine[0], tour), "tour")
    view = first_torn(machine, tour)
    if view is None:
        return None
    watches = [avoiding_watch(machine, tour, view, stage) for stage in stages_of(machine)]
    return (view, tuple(watches))


def lets_avoiding(machine, tour, thing):
    """The view of the paper; InvalidPaper if thing is none."""
    need(is_tour(machine[0], tour), "tour")
    if not is_tuple_of(thing, 2):
        raise InvalidPaper("shape", -1)
    view, watches = thing
    if not is_view(machine[0], tour, view):
        raise InvalidPaper("view", -1)
    stages = stages_of(machine)
    if not is_tuple_of(watches, len(stages)):
        raise InvalidPaper("watches", -1)
    for place, stage in enumerate(stages):
        if not avoids(machine, tour, view, stage, watches[place]):
            raise InvalidPaper("watch", place)
    return view


def avoids(machine, tour, view, stage, thing):
    """Whether thing is a watch that has the view and does not meet the stage."""
    try:
        seen = lets_watch(machine, tour, thing)
    except InvalidPaper:
        return False
    return seen == view and stage not in stages_met(machine, thing[0])
