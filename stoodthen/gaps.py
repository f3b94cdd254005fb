"""Gaps of tours, their bounds, and tours of the form of a nest's."""

from stoodthen.errors import need
from stoodthen.kinds import is_below, is_tour
from stoodthen.rowtools import rows_many


def gap_dials(dials, tour, gap):
    """The lots of the dials that are done, unbegun and open at the gap."""
    need(is_tour(dials, tour), "tour")
    need(is_below(gap, len(tour) + 1), "gap")
    ahead = set(tour[:gap])
    behind = set(tour[gap:])
    done = [dial for dial in range(len(dials)) if dial in ahead and dial not in behind]
    unbegun = [dial for dial in range(len(dials)) if dial in behind and dial not in ahead]
    both = [dial for dial in range(len(dials)) if dial in ahead and dial in behind]
    return (tuple(done), tuple(unbegun), tuple(both))


def gap_products(dials, tour, gap):
    """The products of the sizes of these three lots."""
    done, unbegun, both = [sizes_product(dials, lot) for lot in gap_dials(dials, tour, gap)]
    return (done, unbegun, both)


def sizes_product(dials, lot):
    """The product of the sizes of the dials of the lot."""
    return rows_many([dials[dial] for dial in lot])


def gap_bound(dials, tour, gap):
    """The bound of the gap."""
    done, unbegun, both = gap_products(dials, tour, gap)
    return both * (done + unbegun - 1)


def gap_bounds(dials, tour):
    """The list of the bounds of all gaps."""
    need(is_tour(dials, tour), "tour")
    return [gap_bound(dials, tour, gap) for gap in range(len(tour) + 1)]


def tour_bound(dials, tour):
    """The least bound of the gaps."""
    return min(gap_bounds(dials, tour))


def tight_gap(dials, tour):
    """The first gap with the least bound."""
    bounds = gap_bounds(dials, tour)
    return bounds.index(min(bounds))


def nested_form(dials, tour):
    """The pair (outer, inner) by whose dials the tour goes as a nest's does, or None."""
    need(is_tour(dials, tour), "tour")
    many = 0
    while many < len(tour) - 1 - many and tour[many] == tour[-1 - many]:
        many += 1
    outer = tour[:many]
    inner = tour[many:len(tour) - many]
    if len(set(outer + inner)) < len(outer) + len(inner):
        return None
    return (outer, inner)
