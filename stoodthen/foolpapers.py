"""Papers that show that no reader is right for a machine."""

from stoodthen.errors import InvalidPaper
from stoodthen.kinds import is_row, is_tuple_of
from stoodthen.machines import stages_of
from stoodthen.readables import fooling_row
from stoodthen.strongparts import is_strong_part, parts_without, shows_row


def fool_paper(machine):
    """The fooling_row, and for each stage a part without it that carries it, or None."""
    row = fooling_row(machine)
    if row is None:
        return None
    return (row, tuple([part_carrying(machine, row, stage) for stage in stages_of(machine)]))


def part_carrying(machine, row, stage):
    """The first greatest strong part without the stage that carries the row."""
    return [part for part in parts_without(machine, stage) if shows_row(machine, part, row)][0]


def lets_fooling(machine, thing):
    """The row of the paper; InvalidPaper if thing is none."""
    if not is_tuple_of(thing, 2):
        raise InvalidPaper("shape", -1)
    row, parts = thing
    if not is_row(machine[0], row):
        raise InvalidPaper("row", -1)
    stages = stages_of(machine)
    if not is_tuple_of(parts, len(stages)):
        raise InvalidPaper("parts", -1)
    for place, stage in enumerate(stages):
        if not fools(machine, row, stage, parts[place]):
            raise InvalidPaper("part", place)
    return row


def fools(machine, row, stage, thing):
    """Whether thing is a strong part without the stage that carries the row."""
    if not is_strong_part(machine, thing):
        return False
    if stage in [machine[1][spot][1] for spot in thing]:
        return False
    return shows_row(machine, thing, row)
