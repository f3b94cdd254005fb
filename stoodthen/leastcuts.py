"""The cuts of sizes, the least of them, and its gap."""

from stoodthen.errors import need
from stoodthen.rowtools import rows_many


def cuts_of(sizes):
    """The tuple of the cuts of at least two sizes, by how many are ahead."""
    need(len(sizes) > 1, "sizes")
    whole = rows_many(sizes)
    ahead = 1
    cuts = []
    for size in sizes[:-1]:
        ahead *= size
        cuts.append(ahead + whole // ahead - 1)
    return tuple(cuts)


def least_cut(sizes):
    """The least cut; of one size the size itself, of no sizes 1."""
    if len(sizes) < 2:
        return rows_many(sizes)
    return min(cuts_of(sizes))


def cut_gap(sizes):
    """How many of at least two sizes are ahead at the least cut, as few as can be."""
    cuts = cuts_of(sizes)
    return cuts.index(min(cuts)) + 1
