"""What beats a reader of a code with a bare block: it looks for ever, or tells what never stood."""

from stoodthen.errors import InvalidPaper, need
from stoodthen.gates import all_gates
from stoodthen.handed import bare_block, bare_row, need_code
from stoodthen.kinds import is_below, is_filled_tuple, is_tuple_of
from stoodthen.machines import is_walk, machine_by
from stoodthen.nets import way_of
from stoodthen.readerchecker import is_reader, is_word
from stoodthen.readerjudges import told_unmet
from stoodthen.readerruns import shown, tour_of
from stoodthen.views import is_moments


def beating(net, dials, rows, reader):
    """("endless", steps) or ("told", walk, moments) for the reader that is shown bare_row."""
    bare = bare_block(net, dials, rows)
    need(bare is not None, "rows")
    row = bare_row(net, dials, rows)
    steps, told = shown(dials, reader, row)
    if told is None:
        return ("endless", steps)
    seen = [(dial, row[dial]) for dial in tour_of(dials, reader, row)]
    return ("told", *watch_without(net, rows, all_gates(net)[bare], seen, told))


def watch_without(net, rows, gates, seen, told):
    """A walk without the stage told, and moments of it at which each pair of a dial and a value is seen."""
    # The stages with another gate than the stage told hang together without it, and each value
    # is shown at two stages with unlike gates.
    free = [stage for stage in range(net[0]) if gates[stage] != gates.get(told)]
    goals = [[stage for stage in free if rows[stage][dial] == value][0] for dial, value in seen]
    if goals == []:
        return (tuple(free[:1]), ())
    left = (net[0], tuple([tie for tie in net[1] if told not in tie]))
    walk = goals[:1]
    moments = []
    for goal in goals:
        walk.extend(way_of(left, walk[-1], goal)[1:])
        moments.append(len(walk) - 1)
    return (tuple(walk), tuple(moments))


def lets_beating(net, dials, rows, reader, thing):
    """The stage told, None for "endless"; InvalidPaper if thing does not beat the reader."""
    need_code(net, dials, rows)
    need(is_reader(dials, reader), "reader")
    if is_tuple_of(thing, 2) and is_word(thing[0], "endless"):
        if not is_endless(dials, rows, reader, thing[1]):
            raise InvalidPaper("steps", -1)
        return None
    if not (is_tuple_of(thing, 3) and is_word(thing[0], "told")):
        raise InvalidPaper("shape", -1)
    _, walk, moments = thing
    return told_without(machine_by(net, dials, rows), reader, walk, moments)


def is_endless(dials, rows, reader, thing):
    """Whether thing is the steps of a run that never ends, with values that the dials have at stages."""
    if not (is_filled_tuple(thing) and all([is_below(step, len(reader)) for step in thing])):
        return False
    if thing[0] != 0 or len(set(thing)) < len(thing):
        return False
    values = [[row[dial] for row in rows] for dial in range(len(dials))]
    for place, step in enumerate(thing):
        if reader[step][0] == "tell":
            return False
        _, dial, nexts = reader[step]
        # Behind the last step comes any one of those gone through.
        goals = thing[place + 1:place + 2] or thing
        values[dial] = [value for value in values[dial] if nexts[value] in goals]
        if values[dial] == []:
            return False
    return True


def told_without(machine, reader, walk, moments):
    """The stage told by the reader along the walk; InvalidPaper if it tells none, or one that is met."""
    if not is_walk(machine, walk):
        raise InvalidPaper("walk", -1)
    if not is_moments_of(walk, moments):
        raise InvalidPaper("moments", -1)
    return told_unmet(machine, reader, walk, moments)


def is_moments_of(walk, thing):
    """Whether thing is moments of the walk for some number of looks; with none the walk is of one stage."""
    if thing == ():
        return len(walk) == 1
    return isinstance(thing, tuple) and is_moments(walk, len(thing), thing)
