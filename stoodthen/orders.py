"""The middle of sizes, and the sequences in which their least cut is greatest."""

from stoodthen.errors import need
from stoodthen.rowtools import rows_many
from stoodthen.spotmasks import places_in


def middle_of(sizes):
    """The middle place, and the products of the sizes ahead of it and behind it."""
    need(sizes != (), "sizes")
    whole = rows_many(sizes)
    place = 0
    ahead = 1
    while (ahead * sizes[place]) * (ahead * sizes[place]) < whole:
        ahead *= sizes[place]
        place += 1
    return (place, ahead, whole // (ahead * sizes[place]))


def best_cut(sizes):
    """The greatest least cut that the sizes have in any sequence."""
    need(sizes != (), "sizes")
    return best_way(sizes)[0]


def best_order(sizes):
    """A tuple of all places in whose sequence the sizes have this least cut."""
    need(sizes != (), "sizes")
    return best_way(sizes)[1]


def best_way(sizes):
    """The pair of the greatest least cut and such a sequence of all places."""
    whole = rows_many(sizes)
    # A cut depends on the lot of places ahead alone: for each lot the best sequence of it
    # is the best one of a lot without one of its places, and then this place. The product
    # of all is never less than a cut, so it stands for no cut at both ends.
    ways = [(whole, ())]
    for lot in range(1, 1 << len(sizes)):
        places = places_in(lot)
        ahead = rows_many([sizes[place] for place in places])
        best = max([put_last(ways[lot ^ 1 << place], place) for place in places])
        ways.append((min(best[0], ahead + whole // ahead - 1), best[1]))
    return ways[-1]


def put_last(way, place):
    """The way with one more place at its end."""
    return (way[0], (*way[1], place))
