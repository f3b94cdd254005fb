"""The checker of lives."""

from stoodthen.errors import InvalidPaper
from stoodthen.kinds import is_dials, is_filled_tuple, is_integer, is_row, is_tuple_of


def lets_life(thing):
    """How many stages the life has; InvalidPaper if thing is none."""
    if not is_tuple_of(thing, 2):
        raise InvalidPaper("shape", -1)
    dials, spots = thing
    check_dials_and_spots(dials, spots)
    before = None
    for place, spot in enumerate(spots):
        check_row(dials, place, spot)
        if not follows(before, spot[1]):
            raise InvalidPaper("stage", place)
        before = spot[1]
    return before + 1


def check_dials_and_spots(dials, spots):
    """Refuse what are no dials, or no tuple of at least one spot."""
    if not is_dials(dials):
        raise InvalidPaper("dials", -1)
    if not is_filled_tuple(spots):
        raise InvalidPaper("spots", -1)


def check_row(dials, place, spot):
    """Refuse a spot that is no pair, or whose first value is no row."""
    if not is_tuple_of(spot, 2):
        raise InvalidPaper("shape", place)
    if not is_row(dials, spot[0]):
        raise InvalidPaper("row", place)


def follows(before, stage):
    """Whether stage may come behind the stage before, None for the first."""
    if not is_integer(stage):
        return False
    if before is None:
        return stage == 0
    return stage == before or stage == before + 1


def is_life(thing):
    """Whether thing is a life."""
    try:
        lets_life(thing)
    except InvalidPaper:
        return False
    return True
