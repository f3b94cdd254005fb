"""The rows of nests, and their shifts."""

from stoodthen.cores import core_row, core_stage
from stoodthen.errors import need
from stoodthen.kinds import is_below, is_row
from stoodthen.leastcuts import least_cut
from stoodthen.nestkinds import nest_dials, nest_held


def row_at(nest, stage):
    """The row of the stage."""
    need(is_below(stage, nest_held(nest)), "stage")
    outer, inner = nest
    copy, place = divmod(stage, least_cut(inner))
    values = []
    rest = copy
    for size in reversed(outer):
        rest, value = divmod(rest, size)
        values.append(shifted(size, value, rest, size - 1))
    return tuple(values[::-1]) + shifted_row(inner, first_copy_row(inner, place), copy)


def shifted(size, value, times, shift):
    """The value with so many times the shift added, modulo the size; taken off if they are below 0."""
    return (value + times * shift) % size


def first_copy_row(inner, place):
    """The row of the inner dials at a place of the first copy of their life."""
    return core_row(inner, place) if inner else ()


def inner_shift(inner):
    """The shift of the inner dials: what they show at the end of the first copy."""
    return first_copy_row(inner, least_cut(inner) - 1)


def shifted_row(inner, row, times):
    """The row of the inner dials with so many times their shift added."""
    # Copy v of a nest has v times the shift of the rest, which has for its inner dials the
    # product of its outer sizes times the core's shift: all copies together give as many
    # shifts as there were whole lives of the inner dials before.
    shift = inner_shift(inner)
    return tuple([shifted(size, value, times, turn) for size, value, turn in zip(inner, row, shift)])


def stage_by(nest, row):
    """The stage with this row, or None."""
    need(is_row(nest_dials(nest), row), "row")
    outer, inner = nest
    copy = 0
    for size, value in zip(outer, row):
        copy = copy * size + shifted(size, value, -copy, size - 1)
    if inner == ():
        return copy
    place = core_stage(inner, shifted_row(inner, row[len(outer):], -copy))
    return None if place is None else copy * least_cut(inner) + place


def shift_of(nest):
    """The shift of the nest."""
    # The first row is all noughts, so the last one is the shift.
    return row_at(nest, nest_held(nest) - 1)
