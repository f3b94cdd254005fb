"""What watches see and meet."""

from stoodthen.errors import need
from stoodthen.kinds import is_below, is_tour, is_tuple_of
from stoodthen.machines import is_walk


def is_steady(many, looks, thing):
    """Whether thing has, for each look, a place of so many, none below the one before."""
    if not is_tuple_of(thing, looks):
        return False
    if not all([is_below(place, many) for place in thing]):
        return False
    return all([one <= other for one, other in zip(thing, thing[1:])])


def is_walk_of(machine, looks, thing):
    """Whether thing is a walk for so many looks: with none it is of one spot."""
    return is_walk(machine, thing) and (looks > 0 or len(thing) == 1)


def is_moments(walk, looks, thing):
    """Whether thing is moments of the walk, for so many looks."""
    if not is_steady(len(walk), looks, thing):
        return False
    return looks == 0 or (thing[0] == 0 and thing[-1] == len(walk) - 1)


def view_of(life, tour, moments):
    """The view of the watch of the life at these moments."""
    dials, spots = life
    need(is_tour(dials, tour) and tour != (), "tour")
    need(is_steady(len(spots), len(tour), moments), "moments")
    return view_at(spots, tour, moments)


def view_at(spots, tour, places):
    """What the dials of the tour show at the spots with these places."""
    return tuple([spots[place][0][dial] for dial, place in zip(tour, places)])


def watch_view(machine, tour, walk, moments):
    """The view of the watch (walk, moments) by the tour."""
    need(is_tour(machine[0], tour), "tour")
    need(is_walk_of(machine, len(tour), walk), "walk")
    need(is_moments(walk, len(tour), moments), "moments")
    return view_at(machine[1], tour, [walk[moment] for moment in moments])


def stages_met(machine, walk):
    """The lot of the stages of the walk's spots."""
    need(is_walk(machine, walk), "walk")
    return tuple(sorted({machine[1][spot][1] for spot in walk}))
