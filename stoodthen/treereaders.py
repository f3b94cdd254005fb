"""Readers that look along a tour whatever they see, and then tell what a table has."""

from stoodthen.errors import need
from stoodthen.kinds import is_number, is_row, is_tour, is_tuple_of
from stoodthen.nestkinds import nest_dials, nest_tour
from stoodthen.rowtools import all_rows
from stoodthen.toldanswers import is_seen, told_stage


def reader_by(dials, tour, table):
    """A reader that makes the looks of the tour and tells what the table has for the view, or 0."""
    need(is_tour(dials, tour), "tour")
    sizes = [dials[dial] for dial in tour]
    need(is_table(sizes, table), "table")
    told = {view: stage for view, stage in table}
    steps = []
    many = 1
    for dial, size in zip(tour, sizes):
        # Steps stand look by look, those of one look by what was seen before, ascending.
        ahead = len(steps) + many
        for before in range(many):
            begin = ahead + before * size
            steps.append(("look", dial, tuple(range(begin, begin + size))))
        many *= size
    for view in all_rows(sizes):
        steps.append(("tell", told.get(view, 0)))
    return tuple(steps)


def is_table(sizes, thing):
    """Whether thing is an ascending tuple of pairs of a view and a stage, no view twice."""
    if not isinstance(thing, tuple):
        return False
    if not all([is_entry(sizes, entry) for entry in thing]):
        return False
    return all([one[0] < other[0] for one, other in zip(thing, thing[1:])])


def is_entry(sizes, thing):
    """Whether thing is a pair of a view of looks at these sizes and a stage."""
    return is_tuple_of(thing, 2) and is_row(sizes, thing[0]) and is_number(thing[1])


def nest_reader(nest):
    """Such a reader for the tour of the nest and its table."""
    return reader_by(nest_dials(nest), nest_tour(nest), seen_table(nest))


def seen_table(nest):
    """The pairs of each view that is seen and the stage told for it, by views."""
    dials = nest_dials(nest)
    sizes = [dials[dial] for dial in nest_tour(nest)]
    views = [view for view in all_rows(sizes) if is_seen(nest, view)]
    return tuple([(view, told_stage(nest, view)) for view in views])
