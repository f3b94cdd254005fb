"""Holdings of a net that are found: by shared blocks alone, how many, and with tied ones."""

from math import comb

from stoodthen.blocks import blocks_of, ties_within
from stoodthen.errors import need
from stoodthen.kinds import is_dials


def dealing_of(net, dials):
    """A holding by shared blocks alone, or None."""
    need(is_dials(dials), "dials")
    return holding_with(net, dials, [])


def deals_many(net, dials):
    """How many holdings by shared blocks alone there are."""
    need(is_dials(dials), "dials")
    kinds, counts = counted(weights_of(blocks_of(net)))
    return ways_behind(kinds, counts, dials)[0][counts]


def mixed_of(net, dials):
    """A holding, or None."""
    need(is_dials(dials), "dials")
    # A block of two stages needs no more in a dial of its own if it is shared than if it is tied.
    great = [place for place, lot in enumerate(blocks_of(net)) if len(lot) > 2]
    for tied in lots_among(great):
        holding = holding_with(net, dials, tied)
        if holding is not None:
            return holding
    return None


def lots_among(places):
    """All lists of some of the places, the empty one first."""
    lots = [[]]
    for place in places:
        lots = lots + [[*lot, place] for lot in lots]
    return lots


def holding_with(net, dials, tied):
    """A holding in which just the blocks with these places are tied, or None."""
    blocks = blocks_of(net)
    ties = [len(ties_within(net, blocks[place])) for place in tied]
    if sum(ties) > len(dials):
        return None
    # Any dial does for a tie, so that ties take those of the least sizes.
    free = [dial for _, dial in sorted([(size, dial) for dial, size in enumerate(dials)])]
    shared = [place for place in range(len(blocks)) if place not in tied]
    rest = free[sum(ties):]
    dealt = dealt_places(weights_of([blocks[place] for place in shared]), [dials[dial] for dial in rest])
    if dealt is None:
        return None
    entries = {place: ("dial", rest[at]) for place, at in zip(shared, dealt)}
    begin = 0
    for place, many in zip(tied, ties):
        entries[place] = ("ties", tuple(free[begin:begin + many]))
        begin += many
    return tuple([entries[place] for place in range(len(blocks))])


def weights_of(lots):
    """The stages less 1 of each block."""
    return [len(lot) - 1 for lot in lots]


def counted(weights):
    """The pair of the unlike weights, ascending, and how often each one comes."""
    kinds = sorted(set(weights))
    return (kinds, tuple([weights.count(kind) for kind in kinds]))


def takes(kinds, counts, room):
    """All tuples of how many to take of each kind, up to the counts, that fit in the room."""
    found = [((), room)]
    for kind, count in zip(kinds, counts):
        found = [((*take, many), left - many * kind)
                 for take, left in found for many in range(min(count, left // kind) + 1)]
    return [take for take, _ in found]


def less(counts, take):
    """The counts without what is taken."""
    return tuple([count - many for count, many in zip(counts, take)])


def choices_many(counts, take):
    """In how many ways so many of each kind are taken of so many."""
    many = 1
    for count, taken in zip(counts, take):
        many *= comb(count, taken)
    return many


def ways_behind(kinds, counts, sizes):
    """For each place of a size a dict: in how many ways counts are dealt to the sizes from there on."""
    whole = sum([kind * count for kind, count in zip(kinds, counts)])
    tables = [{tuple([0 for _ in kinds]): 1}]
    for size in reversed(sizes):
        ways = {}
        for left in takes(kinds, counts, whole):
            ways[left] = sum([choices_many(left, take) * tables[-1].get(less(left, take), 0)
                              for take in takes(kinds, left, size - 1)])
        tables.append(ways)
    return tables[::-1]


def dealt_places(weights, sizes):
    """For each weight the place of a size, so that none is given more than its size less 1; or None."""
    kinds, counts = counted(weights)
    tables = ways_behind(kinds, counts, sizes)
    if tables[0].get(counts, 0) == 0:
        return None
    given = {kind: [] for kind in kinds}
    left = counts
    for place, size in enumerate(sizes):
        fitting = [take for take in takes(kinds, left, size - 1) if tables[place + 1].get(less(left, take), 0) > 0]
        for kind, many in zip(kinds, fitting[0]):
            given[kind].extend([place for _ in range(many)])
        left = less(left, fitting[0])
    return [given[weight][weights[:at].count(weight)] for at, weight in enumerate(weights)]
