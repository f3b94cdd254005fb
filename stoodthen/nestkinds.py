"""Nests: whether a value is one, its dials and tour, and nests among other dials."""

from stoodthen.errors import need
from stoodthen.kinds import is_row, is_sizes, is_tour, is_tuple_of
from stoodthen.leastcuts import least_cut
from stoodthen.lifechanges import in_order
from stoodthen.rowtools import rows_many


def is_nest(thing):
    """Whether thing is a pair of tuples of sizes, not both ()."""
    if not is_tuple_of(thing, 2):
        return False
    return is_sizes(thing[0]) and is_sizes(thing[1]) and thing != ((), ())


def nest_dials(nest):
    """The dials of the nest."""
    outer, inner = nest
    return outer + inner


def nest_tour(nest):
    """The outer dials, the inner ones, then the outer ones in reverse."""
    outer, inner = nest
    many = len(outer)
    return tuple(range(many + len(inner))) + tuple(reversed(range(many)))


def nest_held(nest):
    """How many stages the nest holds."""
    outer, inner = nest
    return rows_many(outer) * least_cut(inner)


def need_places(dials, outer, inner):
    """Refuse what are no outer and inner dials of a nest among the dials."""
    need(is_tour(dials, outer) and len(set(outer)) == len(outer), "outer")
    need(is_tour(dials, inner) and outer + inner != (), "inner")
    need(len(set(outer + inner)) == len(outer) + len(inner), "inner")


def nest_by(dials, outer, inner):
    """The nest of the sizes of these outer and inner dials."""
    need_places(dials, outer, inner)
    return (in_order(dials, outer), in_order(dials, inner))


def placed_row(dials, outer, inner, row):
    """The row of the dials that shows a row of this nest, and 0 at the other dials."""
    need_places(dials, outer, inner)
    need(is_row(in_order(dials, outer + inner), row), "row")
    shown = dict(zip(outer + inner, row))
    return tuple([shown.get(dial, 0) for dial in range(len(dials))])
