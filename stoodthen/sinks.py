"""Told gates: their sinks, and how a seen row tells them."""

from stoodthen.blocks import blocks_of, ties_within
from stoodthen.errors import Unseen, need
from stoodthen.gates import gates_in
from stoodthen.holdkinds import lets_holding, need_holding, shared_lots
from stoodthen.kinds import is_number, is_row, is_tuple_of
from stoodthen.regions import regions_by


def sinks_of(net, gates):
    """The lot of all sinks of these told gates."""
    need(is_gates(net, gates), "gates")
    return sinks_by(net, gates)


def sink_of(net, gates):
    """The least sink of these told gates."""
    return sinks_of(net, gates)[0]


def is_gates(net, thing):
    """Whether thing is a tuple with a stage of each block."""
    blocks = blocks_of(net)
    if not is_tuple_of(thing, len(blocks)):
        return False
    return all([is_number(gate) and gate in lot for gate, lot in zip(thing, blocks)])


def sinks_by(net, gates):
    """The lot of the stages that are told for each block that they are in."""
    # A stage that is in a block is its own gate there, and no other stage of it is told for it.
    denied = {stage: True for lot, gate in zip(blocks_of(net), gates) for stage in lot if stage != gate}
    return tuple([stage for stage in range(net[0]) if stage not in denied])


def told_gates(net, dials, holding, row):
    """A tuple of the told gates of all blocks for the row, or Unseen."""
    need_holding(net, dials, holding)
    need(is_row(dials, row), "row")
    spare = lets_holding(net, dials, holding)
    for dial, size in enumerate(dials):
        # A dial that is told for nothing has all values but one to spare.
        if spare[dial] < size - 1 and row[dial] >= size - spare[dial]:
            raise Unseen(dial)
    shared = shared_lots(net, dials, holding)
    told = []
    for lot, (word, places) in zip(blocks_of(net), holding):
        if word == "dial":
            told.append(gate_shown(net, lot, shared[places], row[places]))
        else:
            told.append(gate_tied(net, lot, [row[dial] for dial in places]))
    return tuple(told)


def gate_shown(net, lot, lots, number):
    """The gate in the block of the region with this number, by the blocks of its dial."""
    return gates_in(net, lot)[regions_by(net, lots)[number][0]]


def gate_tied(net, lot, shown):
    """The told gate of a tied block by what the dials of its ties show."""
    home = gates_in(net, lot)[0]
    lit = [tie for tie, value in zip(ties_within(net, lot), shown) if value == 1]
    odd = [stage for stage in lot if len([tie for tie in lit if stage in tie]) % 2 == 1]
    return [stage for stage in lot if (stage in odd) == (stage != home)][0]


def held_told(net, dials, holding, row):
    """The least sink of the gates that the row tells, or their Unseen."""
    return sinks_by(net, told_gates(net, dials, holding, row))[0]
