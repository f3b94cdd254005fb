"""The blocks of nets, and the stages at which they hinge."""

from stoodthen.errors import need
from stoodthen.kinds import is_below
from stoodthen.nets import tied_to
from stoodthen.spotmasks import come_to


def blocks_of(net):
    """All blocks, an ascending tuple of lots."""
    linked = linked_ties(net)
    return tuple(sorted({ends_of(come_to(linked, [tie], {})) for tie in net[1]}))


def ends_of(ties):
    """The lot of the stages at the ends of the ties."""
    return tuple(sorted({stage for tie in ties for stage in tie}))


def linked_ties(net):
    """A dict with, for each tie, the list of the ties that share a stage and the block with it."""
    # Two ties of a stage are of one block if their other ends hang together without the stage.
    size, ties = net
    tied = {stage: list(tied_to(net, stage)) for stage in range(size)}
    linked = {tie: [] for tie in ties}
    for hinge in range(size):
        for end in tied[hinge]:
            hanging = come_to(tied, [end], [hinge])
            alike = [tie_of(hinge, other) for other in tied[hinge] if other in hanging]
            linked[tie_of(hinge, end)].extend(alike)
    return linked


def tie_of(one, other):
    """The tie of two tied stages."""
    return (min(one, other), max(one, other))


def block_ties(net, block):
    """The ties within the block, ascending."""
    return ties_within(net, block_at(net, block))


def block_at(net, block):
    """The lot of the stages of the block with this place."""
    blocks = blocks_of(net)
    need(is_below(block, len(blocks)), "block")
    return blocks[block]


def ties_within(net, lot):
    """The ties between stages of the lot, ascending."""
    return tuple([tie for tie in net[1] if tie[0] in lot and tie[1] in lot])


def blocks_at(net, stage):
    """The lot of the places of the blocks that the stage is in."""
    need(is_below(stage, net[0]), "stage")
    return tuple([place for place, stages in enumerate(blocks_of(net)) if stage in stages])


def hinges_of(net):
    """The lot of the stages in two blocks or more."""
    return tuple([stage for stage in range(net[0]) if len(blocks_at(net, stage)) > 1])
