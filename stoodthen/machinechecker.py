"""The checker of machines."""

from stoodthen.errors import InvalidPaper
from stoodthen.kinds import is_below, is_number, is_tuple_of
from stoodthen.lifechecker import check_dials_and_spots, check_row
from stoodthen.spotmasks import come_to


def lets_machine(thing):
    """How many spots the machine has; InvalidPaper if thing is none."""
    if not is_tuple_of(thing, 3):
        raise InvalidPaper("shape", -1)
    dials, spots, moves = thing
    check_dials_and_spots(dials, spots)
    for place, spot in enumerate(spots):
        check_row(dials, place, spot)
        if not is_number(spot[1]):
            raise InvalidPaper("stage", place)
    check_moves(len(spots), moves)
    reached = spots_reached(moves)
    for place in range(len(spots)):
        if place not in reached:
            raise InvalidPaper("unreached", place)
    return len(spots)


def check_moves(many, moves):
    """Refuse what is no ascending tuple of moves between so many spots."""
    if not isinstance(moves, tuple):
        raise InvalidPaper("moves", -1)
    for place, move in enumerate(moves):
        if not is_move(many, move):
            raise InvalidPaper("move", place)
        if place > 0 and not moves[place - 1] < move:
            raise InvalidPaper("move", place)


def is_move(many, thing):
    """Whether thing is a pair of different spots, of so many."""
    if not is_tuple_of(thing, 2):
        return False
    return is_below(thing[0], many) and is_below(thing[1], many) and thing[0] != thing[1]


def spots_reached(moves):
    """A dict with each spot that spot 0 comes to by moves."""
    ahead = {}
    for here, there in moves:
        ahead.setdefault(here, []).append(there)
    return come_to(ahead, [0], {})


def is_machine(thing):
    """Whether thing is a machine."""
    try:
        lets_machine(thing)
    except InvalidPaper:
        return False
    return True
