"""The gates through which the stages of nets hang on their blocks."""

from stoodthen.blocks import block_at, blocks_of
from stoodthen.errors import need
from stoodthen.kinds import is_below, is_number
from stoodthen.regions import regions_by


def gate_of(net, block, stage):
    """The gate of the stage in the block."""
    lot = block_at(net, block)
    need(is_below(stage, net[0]), "stage")
    return gates_in(net, lot)[stage]


def behind(net, block, gate):
    """The lot of the stages with this gate in the block."""
    lot = block_at(net, block)
    need(is_number(gate) and gate in lot, "gate")
    gates = gates_in(net, lot)
    return tuple([stage for stage in range(net[0]) if gates[stage] == gate])


def gates_of(net, stage):
    """A tuple of the gates of the stage in all blocks."""
    need(is_below(stage, net[0]), "stage")
    return tuple([gates[stage] for gates in all_gates(net)])


def all_gates(net):
    """For each block a dict of the gates of all stages in it."""
    return [gates_in(net, lot) for lot in blocks_of(net)]


def gates_in(net, lot):
    """A dict with, for each stage, its gate in the block that has this lot of stages."""
    gates = {}
    # Without the ties of the block each stage still hangs on just one stage of it.
    for region in regions_by(net, [lot]):
        gate = [stage for stage in region if stage in lot][0]
        for stage in region:
            gates[stage] = gate
    return gates
