"""Which rows fool all readers, and how many sweeps are enough without one."""

from stoodthen.errors import need
from stoodthen.kinds import is_number, is_row
from stoodthen.machines import stages_of
from stoodthen.rowtools import all_rows, row_by, rows_many
from stoodthen.spotmasks import first_in
from stoodthen.strongparts import parts_ahead, parts_without, shows_row, spots_without


def row_answers(machine, row):
    """The lot of the stages that are met by every strong part that carries the row."""
    need(is_row(machine[0], row), "row")
    return tuple([stage for stage in stages_of(machine) if not is_avoided(machine, row, stage)])


def is_avoided(machine, row, stage):
    """Whether some strong part without a spot of the stage carries the row."""
    return any([shows_row(machine, part, row) for part in parts_without(machine, stage)])


def fooling_row(machine):
    """The first row whose row_answers are (), or None."""
    showing = rows_showing(machine[0])
    fooling = (1 << rows_many(machine[0])) - 1
    for stage in stages_of(machine):
        avoided = 0
        for part in parts_without(machine, stage):
            avoided |= rows_carried(machine, showing, part)
        fooling &= avoided
    return row_by(machine[0], first_in(fooling)) if fooling else None


def rows_showing(dials):
    """For each dial, for each of its values, the rows with it, row number k as bit k."""
    showing = [[0 for _ in range(size)] for size in dials]
    for number, row in enumerate(all_rows(dials)):
        for dial, value in enumerate(row):
            showing[dial][value] |= 1 << number
    return showing


def rows_carried(machine, showing, part):
    """The rows that the part carries, row number k as bit k."""
    carried = (1 << rows_many(machine[0])) - 1
    for dial, values in enumerate(showing):
        with_dial = 0
        for value in sorted({machine[1][spot][0][dial] for spot in part}):
            with_dial |= values[value]
        carried &= with_dial
    return carried


def is_readable(machine):
    """Whether some reader is right for the machine."""
    return fooling_row(machine) is None


def enough_sweeps(machine):
    """So many sweeps as make each tour of them safe, if any tour is."""
    return 1 + sum([most_parts(machine, stage) - 1 for stage in stages_of(machine)])


def most_parts(machine, stage):
    """The most greatest strong parts without the stage that one walk goes through."""
    spots = spots_without(machine, stage)
    parts = parts_ahead(machine, spots)
    part_of = {spot: place for place, part in enumerate(parts) for spot in part}
    behind = [[] for _ in parts]
    for here, there in machine[2]:
        if here in part_of and there in part_of and part_of[here] != part_of[there]:
            behind[part_of[here]].append(part_of[there])
    most = [0 for _ in parts]
    for place in reversed(range(len(parts))):
        most[place] = 1 + max([most[further] for further in behind[place]], default=0)
    return max(most, default=0)


def sweep_tour(dials, many):
    """The tour of all dials, ascending, many times one after the other."""
    need(is_number(many), "many")
    return tuple(range(len(dials))) * many
