"""What is told of a nest over weak dials."""

from stoodthen.errors import Unseen, need
from stoodthen.kinds import is_view
from stoodthen.leastcuts import least_cut
from stoodthen.nestkinds import nest_dials, nest_tour
from stoodthen.nestrows import shifted, shifted_row
from stoodthen.rowtools import rows_many
from stoodthen.toldanswers import told_stage


def weak_stage(nest, view):
    """A stage that each watch over weak dials with this view meets, or Unseen."""
    return weak_way(nest, view)[1]


def weak_first(nest, view):
    """At how many outer dials weak_stage goes on before it returns, or its Unseen."""
    return weak_way(nest, view)[0]


def weak_way(nest, view):
    """The pair of both."""
    need(is_view(nest_dials(nest), nest_tour(nest), view), "view")
    outer, inner = nest
    copy = 0
    for dial, size in enumerate(outer):
        first, last = [shifted(size, view[at], -copy, size - 1) for at in (dial, -1 - dial)]
        if first != last:
            if last < first - 1:
                raise Unseen(len(view) - 1 - dial)
            ahead = (copy * size + max(first, last)) * rows_many(outer[dial + 1:])
            return (dial, ahead * least_cut(inner))
        copy = copy * size + first
    return (len(outer), copy * least_cut(inner) + inner_place(nest, view, copy))


def inner_place(nest, view, copy):
    """The least right place within the copy for what the inner looks have, or Unseen."""
    outer, inner = nest
    if inner == ():
        return 0
    seen = view[len(outer):len(outer) + len(inner)]
    try:
        return told_stage(((), inner), shifted_row(inner, seen, -copy))
    except Unseen as unseen:
        raise Unseen(len(outer) + unseen.place) from None
