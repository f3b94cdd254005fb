"""Which stages are right for what was seen, and whether a tour is safe."""

from stoodthen.errors import Torn, need
from stoodthen.kinds import is_tour, is_view
from stoodthen.machines import has_stage, stages_of
from stoodthen.seenviews import Lookers, seen_by
from stoodthen.spotmasks import mask_without, move_masks, show_masks


def avoiding_lookers(machine, tour, stages):
    """For each of the stages the Lookers of the watches that do not meet it."""
    moves = move_masks(machine)
    shows = show_masks(machine)
    return [Lookers(tour, moves, shows, mask_without(machine, stage)) for stage in stages]


def right_stages(machine, tour, view):
    """The lot of the stages that are right for the view."""
    need(is_view(machine[0], tour, view), "view")
    stages = stages_of(machine)
    avoiding = avoiding_lookers(machine, tour, stages)
    return tuple([stage for stage, without in zip(stages, avoiding) if not without.at_last(view)])


def is_safe(machine, tour):
    """Whether for each view that some watch has some stage is right."""
    return first_torn(machine, tour) is None


def first_torn(machine, tour):
    """The first view that some watch has and for which no stage is right, or None."""
    need(is_tour(machine[0], tour), "tour")
    avoiding = avoiding_lookers(machine, tour, stages_of(machine))
    for view in seen_by(machine, tour):
        right = first_right(avoiding, view)
        if right is None:
            return view
        # What is right for one view mostly is for the next one, too.
        avoiding = [avoiding[right], *avoiding[:right], *avoiding[right + 1:]]
    return None


def first_right(avoiding, view):
    """The first place of Lookers none of whose watches has the view, or None."""
    for place, without in enumerate(avoiding):
        if not without.at_last(view):
            return place
    return None


def answer_table(machine, tour):
    """The pairs of each view that some watch has and its least right stage."""
    need(is_tour(machine[0], tour), "tour")
    stages = stages_of(machine)
    avoiding = avoiding_lookers(machine, tour, stages)
    table = []
    for view in seen_by(machine, tour):
        right = first_right(avoiding, view)
        if right is None:
            raise Torn(view)
        table.append((view, stages[right]))
    return tuple(table)


def avoiding_watch(machine, tour, view, stage):
    """A watch that has the view and does not meet the stage, or None."""
    need(is_view(machine[0], tour, view), "view")
    need(has_stage(machine, stage), "stage")
    return avoiding_lookers(machine, tour, (stage,))[0].watch_for(view)
