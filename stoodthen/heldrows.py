"""The rows that the work of a holding has, and how they turn when it passes ties."""

from stoodthen.blocks import blocks_of, ties_within
from stoodthen.errors import need
from stoodthen.holdkinds import need_holding, shared_lots
from stoodthen.kinds import is_below, is_row
from stoodthen.nets import is_tied, way_of
from stoodthen.regions import region_numbers


def code_rows(net, dials, holding):
    """The code of the rows at the stages, if all blocks are shared."""
    need_holding(net, dials, holding)
    need(all([word == "dial" for word, _ in holding]), "holding")
    turns = turns_by(net, dials, holding)
    nought = (0,) * len(dials)
    return tuple([walked(turns, nought, way_of(net, 0, stage)) for stage in range(net[0])])


def rows_each(net, dials, holding):
    """How many rows the work can have at each stage."""
    need_holding(net, dials, holding)
    free = 0
    for lot, (word, _) in zip(blocks_of(net), holding):
        if word == "ties":
            free += len(ties_within(net, lot)) - len(lot) + 1
    return 1 << free


def rows_at(net, dials, holding, stage):
    """All rows that the work can have at the stage, ascending."""
    need_holding(net, dials, holding)
    need(is_below(stage, net[0]), "stage")
    return rows_had(net, dials, holding, stage)


def rows_had(net, dials, holding, stage):
    """As rows_at, of a stage of the net."""
    turns = turns_by(net, dials, holding)
    nought = (0,) * len(dials)
    begin = walked(turns, nought, way_of(net, 0, stage))
    # At stage 0 the dials of shared blocks show 0, and those of ties what the rounds of a walk,
    # one by each tie, turn: so any two of these rows, put together, are one again.
    rounds = {nought: True}
    for one, other in net[1]:
        turned = walked(turns, nought, way_of(net, 0, one) + way_of(net, other, 0))
        if turned not in rounds:
            more = [put_together(row, turned) for row in rounds]
            for row in more:
                rounds[row] = True
    return tuple(sorted([put_together(begin, row) for row in rounds]))


def put_together(row, turned):
    """The row in which the dials that show 1 in turned, noughts and ones, are turned from 0 to 1 or back."""
    return tuple([value ^ more for value, more in zip(row, turned)])


def walked(turns, row, way):
    """The row behind a way of stages, gone along from row."""
    for passing in zip(way, way[1:]):
        row = turned_row(row, turns[passing])
    return row


def turned_row(row, turn):
    """The row behind a turn, a pair of a dial and its new value, None for a dial of a tie."""
    dial, value = turn
    return (*row[:dial], 1 - row[dial] if value is None else value, *row[dial + 1:])


def turns_by(net, dials, holding):
    """A dict with, for each passing (here, there) of a tie, the turn of turned_row."""
    turns = {}
    numbers = [region_numbers(net, lots) for lots in shared_lots(net, dials, holding)]
    for lot, (word, told) in zip(blocks_of(net), holding):
        ties = ties_within(net, lot)
        if word == "dial":
            for one, other in ties:
                turns[(one, other)] = (told, numbers[told][other])
                turns[(other, one)] = (told, numbers[told][one])
        else:
            for (one, other), dial in zip(ties, told):
                turns[(one, other)] = (dial, None)
                turns[(other, one)] = (dial, None)
    return turns


def can_have(net, dials, holding, row, stage):
    """Whether the work can have this row of the dials at the stage of the net."""
    turns = turns_by(net, dials, holding)
    begin = walked(turns, (0,) * len(dials), way_of(net, 0, stage))
    tie_of = {turns[tie][0]: tie for tie in net[1] if turns[tie][1] is None}
    ends = []
    for dial, value in enumerate(row):
        if value != begin[dial]:
            if dial not in tie_of or value > 1:
                return False
            ends.extend(tie_of[dial])
    # Ties that are turned in rounds have an even number of ends at each stage, others have not.
    return all([ends.count(end) % 2 == 0 for end in ends])


def passed_row(net, dials, holding, row, here, there):
    """The row behind the tie, when the work goes from here to there with row at here."""
    need_holding(net, dials, holding)
    need(is_row(dials, row), "row")
    need(is_below(here, net[0]), "here")
    need(can_have(net, dials, holding, row, here), "row")
    need(is_tied(net, here, there), "there")
    return turned_row(row, turns_by(net, dials, holding)[(here, there)])
