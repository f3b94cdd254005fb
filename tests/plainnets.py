"""Nets, holdings and codes gone through plainly, as the definitions say, for small values."""

import functools
import itertools

from tests import plain


def tied(net, here, there):
    return (here, there) in net[1] or (there, here) in net[1]


def simple_ways(net, way, there):
    """All ways that go on from this one to there and have no stage twice."""
    if way[-1] == there:
        return [way]
    ahead = [stage for stage in range(net[0]) if tied(net, way[-1], stage) and stage not in way]
    return [longer for stage in ahead for longer in simple_ways(net, (*way, stage), there)]


@functools.lru_cache(maxsize=None)
def gate(net, lot, stage):
    """The stage of the block at which each way from the block to the stage leaves it for the last time."""
    left = {[at for at in way if at in lot][-1] for start in lot for way in simple_ways(net, (start,), stage)}
    assert len(left) == 1
    return left.pop()


def gates(net, lot):
    return [gate(net, lot, stage) for stage in range(net[0])]


def within(net, lot):
    return [tie for tie in net[1] if set(tie) <= set(lot)]


@functools.lru_cache(maxsize=None)
def regions(net, lots):
    """The lots that hang together without the ties within these blocks, by their least stage."""
    left = (net[0], [tie for tie in net[1] if not any(tie in within(net, lot) for lot in lots)])
    found = []
    for stage in range(net[0]):
        if not any(stage in region for region in found):
            found.append(tuple(other for other in range(net[0]) if simple_ways(left, (stage,), other)))
    return tuple(found)


def region(net, lots, stage):
    return [stage in lot for lot in regions(net, tuple(lots))].index(True)


def entries(net, dials, lot):
    """All that a holding may have for a block, but for what other blocks take."""
    places = range(len(dials))
    return [("dial", dial) for dial in places] + [
        ("ties", told) for told in itertools.product(places, repeat=len(within(net, lot)))]


def is_full(net, dials, holding):
    """Whether some dial is told for more than it has values, or for a tie and for anything else."""
    ties = [dial for word, told in holding if word == "ties" for dial in told]
    blocks = plain.blocks_of(net)
    for dial, size in enumerate(dials):
        shared = [len(lot) - 1 for lot, entry in zip(blocks, holding) if entry == ("dial", dial)]
        if dial in ties:
            if ties.count(dial) > 1 or shared:
                return True
        elif sum(shared) > size - 1:
            return True
    return False


def holdings(net, dials):
    """All holdings of the net in the dials."""
    each = [entries(net, dials, lot) for lot in plain.blocks_of(net)]
    return [holding for holding in itertools.product(*each) if not is_full(net, dials, holding)]


def behind(net, dials, holding, row, here, there):
    """The row of the work behind the tie: each dial of shared blocks shows its region, that of the tie is turned."""
    shown = list(row)
    for dial in range(len(dials)):
        lots = [lot for lot, entry in zip(plain.blocks_of(net), holding) if entry == ("dial", dial)]
        if lots:
            shown[dial] = region(net, lots, there)
    for lot, (word, told) in zip(plain.blocks_of(net), holding):
        for tie, dial in zip(within(net, lot), told if word == "ties" else ()):
            if set(tie) == {here, there}:
                shown[dial] = 1 - shown[dial]
    return tuple(shown)


def work(net, dials, holding):
    """A dict with, for each (stage, row) that the work comes to, a dict of the rows behind each tie."""
    begin = (0, (0,) * len(dials))
    found = {}
    waiting = [begin]
    while waiting:
        stage, row = waiting.pop()
        if (stage, row) in found:
            continue
        found[stage, row] = {there: behind(net, dials, holding, row, stage, there)
                             for there in range(net[0]) if tied(net, stage, there)}
        waiting += found[stage, row].items()
    return found


def rows_at(states, stage):
    return tuple(sorted(row for at, row in states if at == stage))


def unseen_dial(net, dials, holding, row):
    """The least dial that shows what no work lets it show, or None."""
    blocks = plain.blocks_of(net)
    for dial in range(len(dials)):
        lots = [lot for lot, entry in zip(blocks, holding) if entry == ("dial", dial)]
        if lots and row[dial] >= len(regions(net, tuple(lots))):
            return dial
        if any(word == "ties" and dial in told for word, told in holding) and row[dial] > 1:
            return dial
    return None


def told_gates(net, dials, holding, row):
    blocks = plain.blocks_of(net)
    told = []
    for lot, (word, places) in zip(blocks, holding):
        if word == "dial":
            lots = [other for other, entry in zip(blocks, holding) if entry == ("dial", places)]
            told.append(gate(net, lot, regions(net, tuple(lots))[row[places]][0]))
            continue
        home = gate(net, lot, 0)
        for stage in lot:
            lit = sum(row[dial] for tie, dial in zip(within(net, lot), places) if stage in tie)
            if (lit % 2 == 1) == (stage != home):
                told.append(stage)
                break
    return tuple(told)


def sinks(net, told):
    blocks = plain.blocks_of(net)
    return tuple(stage for stage in range(net[0])
                 if all(at == stage for lot, at in zip(blocks, told) if stage in lot))


def parts(net, rows, dial, lot):
    at = gates(net, lot)
    return all(rows[one][dial] != rows[other][dial]
               for one, other in itertools.combinations(range(net[0]), 2) if at[one] != at[other])


def parting(net, dials, rows):
    return tuple(tuple(dial for dial in range(len(dials)) if parts(net, rows, dial, lot))
                 for lot in plain.blocks_of(net))


def bare_row(net, dials, rows):
    told = parting(net, dials, rows)
    if () not in told:
        return None
    at = gates(net, plain.blocks_of(net)[told.index(())])
    pairs = [(one, other) for one, other in itertools.combinations(range(net[0]), 2) if at[one] != at[other]]
    return tuple(min(rows[one][dial] for one, other in pairs if rows[one][dial] == rows[other][dial])
                 for dial in range(len(dials)))


def all_rows(dials):
    return list(itertools.product(*[range(size) for size in dials]))


def codes(net, dials):
    return itertools.product(all_rows(dials), repeat=net[0])


def shown(reader, row):
    """The steps that the reader goes through when it is shown the row, and what it tells, or None."""
    steps = [0]
    while True:
        step = reader[steps[-1]]
        if step[0] == "tell":
            return tuple(steps), step[1]
        following = step[2][row[step[1]]]
        if following in steps:
            return tuple(steps), None
        steps.append(following)


def endless_runs(dials, rows, reader):
    """The steps of all runs that never end, with rows of values that the dials looked at have at stages."""
    found = set()
    for row in all_rows(dials):
        steps, told = shown(reader, row)
        looked = {reader[step][1] for step in steps if reader[step][0] == "look"}
        if told is None and all(row[dial] in [other[dial] for other in rows] for dial in looked):
            found.add(steps)
    return found


def beats(net, rows, reader, walk, moments):
    """The stage told by the reader along the walk, if it tells one that is not met, otherwise None."""
    if not walk or not all(tied(net, here, there) for here, there in zip(walk, walk[1:])):
        return None
    if list(moments) != sorted(moments) or (moments[:1] or (0,)) != (0,) or (moments[-1:] or (0,)) != (len(walk) - 1,):
        return None
    at = 0
    for moment in moments:
        if reader[at][0] == "tell":
            return None
        at = reader[at][2][rows[walk[moment]][reader[at][1]]]
    return reader[at][1] if reader[at][0] == "tell" and reader[at][1] not in walk else None
