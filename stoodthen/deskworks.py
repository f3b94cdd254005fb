"""The works that a desk keeps: of which kind they are, and what there is to tell of one."""

from stoodthen.deskevents import is_name
from stoodthen.growing import is_times
from stoodthen.heldrows import can_have
from stoodthen.holdkinds import is_held
from stoodthen.kinds import is_below, is_filled_tuple, is_number, is_row, is_tuple_of
from stoodthen.nestkinds import is_nest, nest_held
from stoodthen.nestrows import row_at


def is_named_work(thing):
    """Whether thing is a pair of a name and a work."""
    if not (is_tuple_of(thing, 2) and is_name(thing[0]) and is_filled_tuple(thing[1])):
        return False
    word, *rest = thing[1]
    if word == "line":
        return len(rest) == 3 and is_line(*rest)
    return word == "net" and len(rest) == 6 and is_held_work(*rest)


def is_line(nest, stage, grown):
    """Whether these are a nest, a stage of it, and how often it may have grown."""
    return is_nest(nest) and is_below(stage, nest_held(nest)) and is_times(nest, grown)


def is_held_work(net, dials, holding, row, stage, hung):
    """Whether the work of this holding can have the row at the stage, and hung is a number."""
    if not (is_held(net, dials, holding) and is_row(dials, row) and is_below(stage, net[0])):
        return False
    return can_have(net, dials, holding, row, stage) and is_number(hung)


def stage_of(work):
    """The stage of the work."""
    return work[2] if work[0] == "line" else work[5]


def row_of(work):
    """The row that the dials of the work show."""
    return row_at(work[1], work[2]) if work[0] == "line" else work[4]


def held_of(work):
    """How many stages the nest of the work holds, or its net has."""
    return nest_held(work[1]) if work[0] == "line" else work[1][0]
