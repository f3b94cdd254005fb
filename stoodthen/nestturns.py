"""What turns in a nest's life, and the rows of its code kept for off."""

from stoodthen.errors import need
from stoodthen.kinds import is_below, is_number
from stoodthen.meshes import half_of
from stoodthen.nestkinds import nest_dials, nest_held
from stoodthen.nestrows import row_at
from stoodthen.offbounds import stages_each
from stoodthen.rowtools import rows_many, unlike_dials
from stoodthen.toandfro import place_turns


def turn_at(nest, stage):
    """The dial that is turned when the stage begins, and the value that it gets."""
    need(is_below(stage, nest_held(nest)) and stage > 0, "stage")
    row = row_at(nest, stage)
    dial = unlike_dials(nest_dials(nest), row_at(nest, stage - 1), row)[0]
    return (dial, row[dial])


def nest_turns(nest, dial):
    """How often the dial is turned in the nest's life."""
    outer, inner = nest
    need(is_below(dial, len(outer) + len(inner)), "dial")
    if dial < len(outer):
        return place_turns(outer, dial)
    return rows_many(outer) * core_turns(inner, dial - len(outer))


def core_turns(inner, dial):
    """How often the dial is turned in the life of these inner sizes alone."""
    if len(inner) == 1:
        return inner[0] - 1
    sizes, place = half_of(inner, dial)
    return place_turns(sizes, place)


def off_row(nest, off, stage):
    """The row of the stage in the nest's code kept for off."""
    need(is_number(off), "off")
    need(is_below(stage, stages_each(off) * nest_held(nest)), "stage")
    return row_at(nest, stage // stages_each(off))
