"""The checker of readers."""

from stoodthen.errors import InvalidPaper
from stoodthen.kinds import is_below, is_filled_tuple, is_number, is_tuple_of


def lets_reader(dials, thing):
    """How many steps the reader has; InvalidPaper if thing is none."""
    if not is_filled_tuple(thing):
        raise InvalidPaper("shape", -1)
    for place, step in enumerate(thing):
        if is_tuple_of(step, 3) and is_word(step[0], "look"):
            check_look(dials, len(thing), place, step)
        elif is_tuple_of(step, 2) and is_word(step[0], "tell"):
            if not is_number(step[1]):
                raise InvalidPaper("stage", place)
        else:
            raise InvalidPaper("shape", place)
    return len(thing)


def is_word(thing, word):
    """Whether thing is this very string."""
    return isinstance(thing, str) and thing == word


def check_look(dials, many, place, step):
    """Refuse a look at no dial, or without a step for each value of it."""
    _, dial, nexts = step
    if not is_below(dial, len(dials)):
        raise InvalidPaper("dial", place)
    if not is_tuple_of(nexts, dials[dial]):
        raise InvalidPaper("nexts", place)
    if not all([is_below(following, many) for following in nexts]):
        raise InvalidPaper("nexts", place)


def is_reader(dials, thing):
    """Whether thing is a reader for the dials."""
    try:
        lets_reader(dials, thing)
    except InvalidPaper:
        return False
    return True
