"""Lives as long as a life can be, and how often they turn each dial."""

from stoodthen.leastcuts import least_cut
from stoodthen.lives import is_lean, stages_many, turns_of
from stoodthen.nestturns import core_turns


def is_longest(life):
    """Whether the life is lean and has as many stages as the least cut of its dials."""
    return is_lean(life) and stages_many(life) == least_cut(life[0])


def due_turns(dials):
    """For each dial how often it is turned in the life of the nest ((), dials)."""
    return tuple([core_turns(dials, dial) for dial in range(len(dials))])


def is_due(life):
    """Whether the life turns each dial just as often."""
    dials = life[0]
    return due_turns(dials) == tuple([turns_of(life, dial) for dial in range(len(dials))])
