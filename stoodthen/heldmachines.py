"""The machine of the work of a holding."""

from stoodthen.heldrows import rows_had, turned_row, turns_by
from stoodthen.holdkinds import need_holding


def held_machine(net, dials, holding):
    """The undo machine with a spot for each stage and each row that the work can have there."""
    need_holding(net, dials, holding)
    spots = [(row, stage) for stage in range(net[0]) for row in rows_had(net, dials, holding, stage)]
    number = {spot: place for place, spot in enumerate(spots)}
    moves = []
    for (here, there), turn in turns_by(net, dials, holding).items():
        for row in rows_had(net, dials, holding, here):
            moves.append((number[(row, here)], number[(turned_row(row, turn), there)]))
    return (dials, tuple(spots), tuple(sorted(moves)))
