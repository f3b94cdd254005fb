"""Nets: made of ties, lines, rings and stars, and ways in them."""

from stoodthen.errors import NotUsable, need
from stoodthen.kinds import is_below, is_integer, is_tuple_of
from stoodthen.netchecker import first_apart, is_net

MOST_STAGES = 12


def need_size(size, least):
    """Refuse a size that is no integer from least to twelve."""
    need(is_integer(size) and least <= size <= MOST_STAGES, "size")


def net_of(size, *ties):
    """The net of so many stages with these ties."""
    need_size(size, 1)
    for place, tie in enumerate(ties):
        if not joins_two(size, tie):
            raise NotUsable("ties", place)
    pairs = tuple(sorted({(min(tie), max(tie)) for tie in ties}))
    need(first_apart(size, pairs) is None, "ties")
    return (size, pairs)


def joins_two(size, thing):
    """Whether thing is a pair of unlike numbers below size."""
    if not is_tuple_of(thing, 2):
        return False
    return is_below(thing[0], size) and is_below(thing[1], size) and thing[0] != thing[1]


def neighbours_of(net, stage):
    """The lot of stages tied to stage."""
    need(is_below(stage, net[0]), "stage")
    return tied_to(net, stage)


def tied_to(net, stage):
    """The lot of stages tied to a stage of the net."""
    lower = [one for one, other in net[1] if other == stage]
    upper = [other for one, other in net[1] if one == stage]
    return tuple(sorted([*lower, *upper]))


def is_tied(net, here, there):
    """Whether a tie joins the two stages."""
    need(is_below(here, net[0]), "here")
    need(is_below(there, net[0]), "there")
    return there in tied_to(net, here)


def way_of(net, here, there):
    """The first one, as Python sorts, of the shortest ways from here to there."""
    need(is_below(here, net[0]), "here")
    need(is_below(there, net[0]), "there")
    far = ties_between(net, there)
    way = [here]
    while way[-1] != there:
        nearer = [stage for stage in tied_to(net, way[-1]) if far[stage] < far[way[-1]]]
        way.append(min(nearer))
    return tuple(way)


def ties_between(net, there):
    """A dict with, for each stage, how many ties it is away from there."""
    far = {there: 0}
    edge = [there]
    while edge:
        further = []
        for stage in edge:
            for ahead in tied_to(net, stage):
                if ahead not in far:
                    far[ahead] = far[stage] + 1
                    further.append(ahead)
        edge = further
    return far


def line_net(size):
    """The net in which each stage is tied to the next one."""
    need_size(size, 1)
    return (size, line_ties(size))


def line_ties(size):
    """The ties of a line of so many stages."""
    return tuple([(stage, stage + 1) for stage in range(size - 1)])


def ring_net(size):
    """The line whose last stage is tied to stage 0, too."""
    need_size(size, 3)
    return (size, tuple(sorted([*line_ties(size), (0, size - 1)])))


def star_net(size):
    """The net in which stage 0 is tied to each other one."""
    need_size(size, 1)
    return (size, tuple([(0, stage) for stage in range(1, size)]))


def hung_on(net, stage, other):
    """The net with the other net hung on at stage."""
    size, ties = net
    need(is_below(stage, size), "stage")
    need(is_net(other), "other")
    more = [(hung_stage(size, stage, one), hung_stage(size, stage, two)) for one, two in other[1]]
    return (size + other[0] - 1, tuple(sorted([*ties, *more])))


def hung_stage(size, at, stage):
    """The number that a stage of a net gets that is hung on at at."""
    return at if stage == 0 else stage - 1 + size
