"""The checker of nets."""

from stoodthen.errors import InvalidPaper
from stoodthen.kinds import is_below, is_integer, is_tuple_of
from stoodthen.spotmasks import come_to


def lets_net(thing):
    """How many ties the net has; InvalidPaper if thing is none."""
    if not is_tuple_of(thing, 2):
        raise InvalidPaper("shape", -1)
    size, ties = thing
    if not (is_integer(size) and size >= 1):
        raise InvalidPaper("size", -1)
    if not isinstance(ties, tuple):
        raise InvalidPaper("ties", -1)
    for place, tie in enumerate(ties):
        if not is_tie(size, tie):
            raise InvalidPaper("tie", place)
        if place > 0 and not ties[place - 1] < tie:
            raise InvalidPaper("tie", place)
    apart = first_apart(size, ties)
    if apart is not None:
        raise InvalidPaper("apart", apart)
    return len(ties)


def is_tie(size, thing):
    """Whether thing is a pair (one, other) with one below other below size."""
    if not is_tuple_of(thing, 2):
        return False
    return is_below(thing[1], size) and is_below(thing[0], thing[1])


def first_apart(size, ties):
    """The least stage that does not hang on 0, or None."""
    hanging = stages_hanging(ties)
    stage = 0
    # The stages are not gone through up to size, which may be of any greatness.
    while stage in hanging:
        stage += 1
    return stage if stage < size else None


def stages_hanging(ties):
    """A dict with each stage that hangs on 0."""
    return come_to(tied_lists(ties), [0], {})


def tied_lists(ties):
    """A dict with, for each stage that has ties, the list of the stages tied to it."""
    tied = {}
    for one, other in ties:
        tied.setdefault(one, []).append(other)
        tied.setdefault(other, []).append(one)
    return tied


def is_net(thing):
    """Whether thing is a net."""
    try:
        lets_net(thing)
    except InvalidPaper:
        return False
    return True
