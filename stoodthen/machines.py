"""Machines: made of lives, nets and lines, and what there is to tell of them."""

from stoodthen.errors import need
from stoodthen.kinds import is_below, is_dials, is_filled_tuple, is_number, is_row, is_rows, is_tuple_of
from stoodthen.rowtools import unlike_dials


def machine_of(life):
    """The life as a machine, with a move from each spot to the next one."""
    dials, spots = life
    return (dials, spots, tuple([(spot, spot + 1) for spot in range(len(spots) - 1)]))


def stages_of(machine):
    """The stages of the machine, ascending."""
    return tuple(sorted({stage for _, stage in machine[1]}))


def has_stage(machine, thing):
    """Whether thing is a stage of the machine."""
    return is_number(thing) and thing in stages_of(machine)


def spots_with(machine, stage):
    """The lot of spots with the stage."""
    need(has_stage(machine, stage), "stage")
    return tuple([place for place, (_, at) in enumerate(machine[1]) if at == stage])


def goes_to(machine, spot):
    """The lot of spots to which a move goes from spot."""
    need(is_below(spot, len(machine[1])), "spot")
    return tuple([there for here, there in machine[2] if here == spot])


def is_undo(machine):
    """Whether with each move the move back is there."""
    moves = set(machine[2])
    for here, there in machine[2]:
        if (there, here) not in moves:
            return False
    return True


def is_walk(machine, thing):
    """Whether thing is a tuple, not (), of spots, each a move behind the last."""
    if not is_filled_tuple(thing):
        return False
    if not all([is_below(spot, len(machine[1])) for spot in thing]):
        return False
    moves = set(machine[2])
    for here, there in zip(thing, thing[1:]):
        if (here, there) not in moves:
            return False
    return True


def is_code(net, dials, thing):
    """Whether thing has a row of the dials for each stage of the net."""
    return is_tuple_of(thing, net[0]) and all([is_row(dials, row) for row in thing])


def machine_by(net, dials, rows):
    """The machine that goes along each tie, both ways, at once."""
    need(is_dials(dials), "dials")
    need(is_code(net, dials, rows), "rows")
    moves = [*net[1], *[(other, one) for one, other in net[1]]]
    spots = [(row, stage) for stage, row in enumerate(rows)]
    return (dials, tuple(spots), tuple(sorted(moves)))


def turning_by(net, dials, rows):
    """The machine that turns the dials of a tie one by one."""
    need(is_dials(dials), "dials")
    need(is_code(net, dials, rows), "rows")
    spots = [(row, stage) for stage, row in enumerate(rows)]
    moves = []
    for one, other in net[1]:
        for here, there in ((one, other), (other, one)):
            lots = lots_of(unlike_dials(dials, rows[here], rows[there]))
            moves.extend(turning_moves(lots, here, there, len(spots)))
            for lot in lots[1:-1]:
                spots.append((mixed_row(rows[here], rows[there], lot), here))
    return (dials, tuple(spots), tuple(sorted(moves)))


def lots_of(dials):
    """All lots of the dials: () first, that of all last, the others ascending."""
    lots = [()]
    for dial in dials:
        lots = lots + [(*lot, dial) for lot in lots]
    return [(), *sorted(lots[1:-1]), dials]


def turning_moves(lots, here, there, first):
    """The moves of the turning from here to there, with its own spots from first on."""
    whole = lots[-1]
    # Rows that do not differ have () alone, which can't name both ends.
    if whole == ():
        return [(here, there)]
    spot_of = {(): here, whole: there}
    for place, lot in enumerate(lots[1:-1]):
        spot_of[lot] = first + place
    moves = []
    for lot in lots:
        for dial in whole:
            if dial not in lot:
                larger = tuple(sorted([*lot, dial]))
                moves.append((spot_of[lot], spot_of[larger]))
    return moves


def mixed_row(row, ahead, lot):
    """The row with the dials of the lot as in the row ahead."""
    return tuple([ahead[dial] if dial in lot else value for dial, value in enumerate(row)])


def stepping_back(dials, rows, steps):
    """The machine of a line of rows whose work may step back by steps."""
    need(is_rows(dials, rows), "rows")
    need(is_number(steps), "steps")
    places = [(far, back) for far in range(len(rows)) for back in range(min(steps, far) + 1)]
    number = {place: spot for spot, place in enumerate(places)}
    spots = [(rows[far - back], far - back) for far, back in places]
    moves = []
    for far, back in places:
        ahead = [(far, back - 1), (far, back + 1)]
        if back == 0:
            ahead.append((far + 1, 0))
        for place in ahead:
            if place in number:
                moves.append((number[(far, back)], number[place]))
    return (dials, tuple(spots), tuple(sorted(moves)))


def weakened(machine):
    """The machine that may go to and fro within each of its moves."""
    dials, spots, moves = machine
    for here, there in moves:
        need(len(unlike_dials(dials, spots[here][0], spots[there][0])) < 2, "machine")
    more = list(spots)
    turns = []
    for here, there in moves:
        old = len(more)
        more.extend([spots[here], spots[there]])
        turns.extend([(here, old), (old, old + 1), (old + 1, old), (old + 1, there)])
    return (dials, tuple(more), tuple(sorted(turns)))
