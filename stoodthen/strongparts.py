"""Strong parts of machines: spots that come to each other among themselves."""

from stoodthen.errors import need
from stoodthen.kinds import is_lot, is_row
from stoodthen.machines import has_stage
from stoodthen.spotmasks import come_to


def strong_parts(machine):
    """The greatest strong parts, ascending."""
    return tuple(sorted(parts_ahead(machine, list(range(len(machine[1]))))))


def parts_without(machine, stage):
    """The greatest strong parts among the spots without the stage, ascending."""
    need(has_stage(machine, stage), "stage")
    return tuple(sorted(parts_ahead(machine, spots_without(machine, stage))))


def spots_without(machine, stage):
    """The lot of spots that do not have the stage."""
    return tuple([spot for spot, (_, at) in enumerate(machine[1]) if at != stage])


def parts_ahead(machine, spots):
    """The greatest strong parts among the spots, each ahead of those it comes to."""
    ahead, back = moves_among(machine, spots)
    part_of = {}
    parts = []
    for start in left_order(ahead, spots)[::-1]:
        if start not in part_of:
            part = tuple(sorted(come_to(back, [start], part_of)))
            parts.append(part)
            for spot in part:
                part_of[spot] = True
    return parts


def moves_among(machine, spots):
    """Two dicts of lists: where moves among the spots go to, and where from."""
    ahead = {spot: [] for spot in spots}
    back = {spot: [] for spot in spots}
    for here, there in machine[2]:
        if here in ahead and there in ahead:
            ahead[here].append(there)
            back[there].append(here)
    return ahead, back


def left_order(ahead, spots):
    """The spots as a search that goes on as deep as it can leaves them for good."""
    found = {}
    left = []
    for start in spots:
        waiting = [] if start in found else [(start, 0)]
        found[start] = True
        while waiting:
            spot, tried = waiting.pop()
            if tried == len(ahead[spot]):
                left.append(spot)
            else:
                waiting.append((spot, tried + 1))
                there = ahead[spot][tried]
                if there not in found:
                    found[there] = True
                    waiting.append((there, 0))
    return left


def is_strong_part(machine, thing):
    """Whether thing is a strong part of the machine."""
    if not (is_lot(len(machine[1]), thing) and thing != ()):
        return False
    ahead, back = moves_among(machine, thing)
    return all([len(come_to(moves, thing[:1], {})) == len(thing) for moves in (ahead, back)])


def carries(machine, part, row):
    """Whether each value of the row is shown, by its dial, at some spot of part."""
    need(is_lot(len(machine[1]), part), "part")
    need(is_row(machine[0], row), "row")
    return shows_row(machine, part, row)


def shows_row(machine, part, row):
    """As carries, for what is known to be a lot of spots and a row."""
    rows = [machine[1][spot][0] for spot in part]
    return all([any([shown[dial] == value for shown in rows]) for dial, value in enumerate(row)])
