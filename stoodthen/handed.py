"""Codes of nets that are handed in: which dials part which blocks, and what their rows tell."""

from stoodthen.blocks import blocks_of
from stoodthen.errors import Unseen, need
from stoodthen.gates import all_gates
from stoodthen.kinds import is_below, is_dials, is_row
from stoodthen.machines import is_code
from stoodthen.rowtools import unlike_dials
from stoodthen.sinks import sinks_by


def need_code(net, dials, rows):
    """Refuse what are no dials, or no code of the net in them."""
    need(is_dials(dials), "dials")
    need(is_code(net, dials, rows), "rows")


def parts_block(net, dials, rows, dial, block):
    """Whether the dial parts the block in the code rows."""
    need_code(net, dials, rows)
    need(is_below(dial, len(dials)), "dial")
    need(is_below(block, len(blocks_of(net))), "block")
    return parts_gates(rows, dial, all_gates(net)[block])


def parts_gates(rows, dial, gates):
    """Whether stages with unlike gates have unlike values in the dial."""
    return mixed_values(rows, dial, gates) == ()


def mixed_values(rows, dial, gates):
    """The values that the dial has at two stages with unlike gates, ascending."""
    gate_of_value = {}
    mixed = []
    for stage, row in enumerate(rows):
        value = row[dial]
        if gate_of_value.setdefault(value, gates[stage]) != gates[stage]:
            mixed.append(value)
    return tuple(sorted(set(mixed)))


def parting_dials(net, dials, rows):
    """For each block the lot of the dials that part it."""
    need_code(net, dials, rows)
    return tuple([parting_lot(dials, rows, gates) for gates in all_gates(net)])


def parting_lot(dials, rows, gates):
    """The lot of the dials that part the block with these gates."""
    return tuple([dial for dial in range(len(dials)) if parts_gates(rows, dial, gates)])


def bare_block(net, dials, rows):
    """The place of the first block that no dial parts, or None."""
    parting = parting_dials(net, dials, rows)
    return parting.index(()) if () in parting else None


def bare_row(net, dials, rows):
    """For each dial the least value at two stages with unlike gates in the first bare block, or None."""
    bare = bare_block(net, dials, rows)
    if bare is None:
        return None
    gates = all_gates(net)[bare]
    return tuple([mixed_values(rows, dial, gates)[0] for dial in range(len(dials))])


def is_trim(net, dials, rows):
    """Whether the rows of each two tied stages differ in just one dial."""
    need_code(net, dials, rows)
    return all([len(unlike_dials(dials, rows[one], rows[other])) == 1 for one, other in net[1]])


def handed_told(net, dials, rows, row):
    """The least sink of the gates that the least parting dials tell for the row, or Unseen."""
    parting = parting_dials(net, dials, rows)
    need(() not in parting, "rows")
    need(is_row(dials, row), "row")
    least = [lot[0] for lot in parting]
    for dial in sorted(set(least)):
        if row[dial] not in [shown[dial] for shown in rows]:
            raise Unseen(dial)
    told = [gates[first_with(rows, dial, row[dial])] for dial, gates in zip(least, all_gates(net))]
    return sinks_by(net, told)[0]


def first_with(rows, dial, value):
    """The least stage at which the dial has the value."""
    return [shown[dial] for shown in rows].index(value)
