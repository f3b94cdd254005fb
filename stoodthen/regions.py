"""The regions of nets: what still hangs together when the ties within blocks are taken out."""

from stoodthen.blocks import blocks_of, ties_within
from stoodthen.errors import need
from stoodthen.kinds import is_below, is_lot
from stoodthen.netchecker import tied_lists
from stoodthen.spotmasks import come_to


def regions_of(net, places):
    """The regions by the blocks with these places, a tuple of lots by their numbers."""
    return regions_by(net, lots_at(net, places))


def region_of(net, places, stage):
    """The number of the region by these blocks that the stage is in."""
    lots = lots_at(net, places)
    need(is_below(stage, net[0]), "stage")
    return region_numbers(net, lots)[stage]


def lots_at(net, places):
    """The list of the blocks with these places."""
    blocks = blocks_of(net)
    need(is_lot(len(blocks), places), "places")
    return [blocks[place] for place in places]


def regions_by(net, lots):
    """The regions by the blocks that have these lots of stages."""
    size, ties = net
    taken = {tie: True for lot in lots for tie in ties_within(net, lot)}
    tied = tied_lists([tie for tie in ties if tie not in taken])
    regions = []
    found = {}
    for stage in range(size):
        if stage not in found:
            region = tuple(sorted(come_to(tied, [stage], {})))
            regions.append(region)
            for hanging in region:
                found[hanging] = True
    return tuple(regions)


def region_numbers(net, lots):
    """A dict with, for each stage, the number of its region by these blocks."""
    return {stage: number for number, region in enumerate(regions_by(net, lots)) for stage in region}
