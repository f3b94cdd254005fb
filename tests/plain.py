"""The definitions of the document gone through plainly, for small values."""

import functools
import itertools


def moves_from(machine, spot):
    return [there for here, there in machine[2] if here == spot]


def stages(machine):
    return sorted({stage for _, stage in machine[1]})


def come_to(machine, start, within):
    """All spots that start comes to by moves within the spots."""
    found = {start}
    while True:
        more = {there for here in found for there in moves_from(machine, here) if there in within}
        if more <= found:
            return found
        found |= more


def watches_seen(machine, tour):
    """All pairs of the view of a watch and the stages that it meets."""
    spots = machine[1]
    if not tour:
        return {((), frozenset([stage])) for _, stage in spots}
    waiting = [((row[tour[0]],), spot, frozenset([stage])) for spot, (row, stage) in enumerate(spots)]
    found = set(waiting)
    ended = set()
    while waiting:
        view, spot, met = waiting.pop()
        if len(view) == len(tour):
            ended.add((view, met))
            continue
        ahead = [((*view, spots[spot][0][tour[len(view)]]), spot, met)]
        ahead += [(view, there, met | {spots[there][1]}) for there in moves_from(machine, spot)]
        for state in ahead:
            if state not in found:
                found.add(state)
                waiting.append(state)
    return ended


def right_stages(machine, tour, view):
    right = set(stages(machine))
    for seen, met in watches_seen(machine, tour):
        if seen == view:
            right &= met
    return tuple(sorted(right))


def views(machine, tour):
    return tuple(sorted({view for view, _ in watches_seen(machine, tour)}))


def torn_views(machine, tour):
    right = {}
    for view, met in watches_seen(machine, tour):
        right[view] = right.get(view, met) & met
    return sorted(view for view in right if not right[view])


def is_watch(machine, tour, walk, moments):
    """Whether the pair is a watch by the tour, word by word as the definitions say."""
    if not all((here, there) in machine[2] for here, there in zip(walk, walk[1:])):
        return False
    if not tour:
        return len(walk) == 1 and moments == ()
    if len(moments) != len(tour) or list(moments) != sorted(moments):
        return False
    return moments[0] == 0 and moments[-1] == len(walk) - 1


def is_strong(machine, lot):
    return bool(lot) and all(set(lot) <= come_to(machine, spot, lot) for spot in lot)


def lots(numbers):
    return [lot for many in range(len(numbers) + 1) for lot in itertools.combinations(numbers, many)]


def strong_parts(machine, spots):
    """The strong parts among the spots that are not within greater ones."""
    strong = [lot for lot in lots(spots) if is_strong(machine, lot)]
    return tuple(sorted(lot for lot in strong if not any(set(lot) < set(other) for other in strong)))


def without(machine, stage):
    return tuple(spot for spot, (_, at) in enumerate(machine[1]) if at != stage)


def carries(machine, part, row):
    return all(any(machine[1][spot][0][dial] == value for spot in part) for dial, value in enumerate(row))


def row_answers(machine, row):
    strong = [lot for lot in lots(range(len(machine[1]))) if is_strong(machine, lot)]
    answers = set(stages(machine))
    for lot in strong:
        if carries(machine, lot, row):
            answers &= {machine[1][spot][1] for spot in lot}
    return tuple(sorted(answers))


def most_parts(machine, stage):
    """The most greatest strong parts without the stage that one walk goes through."""
    spots = without(machine, stage)
    parts = strong_parts(machine, spots)

    def longest(part):
        ahead = come_to(machine, part[0], spots)
        return 1 + max([longest(other) for other in parts if other != part and other[0] in ahead], default=0)

    return max([longest(part) for part in parts], default=0)


def reader_states(machine, reader):
    """The moves and looks of a reader among triples (step, spot, stages met), as two lists."""
    spots = machine[1]
    waiting = [(0, spot, frozenset([stage])) for spot, (_, stage) in enumerate(spots)]
    found = set(waiting)
    looks, moves = [], []
    while waiting:
        state = waiting.pop()
        step, spot, met = state
        if reader[step][0] == "tell":
            continue
        ahead = [(reader[step][2][spots[spot][0][reader[step][1]]], spot, met)]
        looks.append((state, ahead[0]))
        for there in moves_from(machine, spot):
            ahead.append((step, there, met | {spots[there][1]}))
            moves.append((state, ahead[-1]))
        for other in ahead:
            if other not in found:
                found.add(other)
                waiting.append(other)
    return found, looks, moves


def judged(machine, reader):
    found, looks, moves = reader_states(machine, reader)
    ahead = {}
    for here, there in looks + moves:
        ahead.setdefault(here, []).append(there)
    for here, there in looks:
        reached, waiting = {there}, [there]
        while waiting:
            for state in ahead.get(waiting.pop(), ()):
                if state not in reached:
                    reached.add(state)
                    waiting.append(state)
        if here in reached:
            return "endless"
    told = [(reader[step][1], met) for step, _, met in found if reader[step][0] == "tell"]
    return "wrong" if any(stage not in met for stage, met in told) else "right"


def tells_wrong(machine, reader):
    """Whether some watch that ends tells a number that it does not meet."""
    found, _, _ = reader_states(machine, reader)
    return any(reader[step][0] == "tell" and reader[step][1] not in met for step, _, met in found)


def life_watches(life, looks):
    return itertools.combinations_with_replacement(range(len(life[1])), looks)


def life_view(life, tour, moments):
    return tuple(life[1][moment][0][dial] for dial, moment in zip(tour, moments))


def two_looks(life, tour):
    """All pairs of watches, by moments, with one view, the first one ending in a lower stage."""
    by_view = {}
    for moments in life_watches(life, len(tour)):
        by_view.setdefault(life_view(life, tour, moments), []).append(moments)
    stage = [at for _, at in life[1]]
    return [(one, other) for same in by_view.values() for one in same for other in same
            if stage[one[-1]] < stage[other[0]]]


def product(numbers):
    result = 1
    for number in numbers:
        result *= number
    return result


def gap_dials(dials, tour, gap):
    looked = [dial for dial in range(len(dials)) if dial in tour]
    done = [dial for dial in looked if dial not in tour[gap:]]
    unbegun = [dial for dial in looked if dial not in tour[:gap]]
    both = [dial for dial in looked if dial not in done and dial not in unbegun]
    return tuple(done), tuple(unbegun), tuple(both)


def gap_bound(dials, tour, gap):
    done, unbegun, both = [product([dials[dial] for dial in lot]) for lot in gap_dials(dials, tour, gap)]
    return both * (done + unbegun - 1)


def cut_marks(life, tour, gap):
    rows = {}
    for row, stage in life[1]:
        rows.setdefault(stage, row)
    lots_ = gap_dials(life[0], tour, gap)

    def shows(stage, which):
        return [rows[stage][dial] for dial in lots_[which]]

    marks = []
    for stage in rows:
        group = [other for other in rows if shows(other, 2) == shows(stage, 2)]
        lower = [other for other in group if other < stage]
        if stage == min(group):
            marks.append("first")
        elif not any(shows(other, 0) == shows(stage, 0) for other in lower):
            marks.append("new")
        elif not any(shows(other, 1) == shows(max(lower), 1) for other in group if other >= stage):
            marks.append("gone")
        else:
            marks.append("clash")
    return tuple(marks)


def cuts_of(sizes):
    return tuple(product(sizes[:h]) + product(sizes[h:]) - 1 for h in range(1, len(sizes)))


def least_cut(sizes):
    return min(cuts_of(sizes), default=product(sizes))


def best_cut(sizes):
    return max(least_cut(order) for order in itertools.permutations(sizes))


def choices(dials):
    """All choices: the looks, what is held, and the choice itself."""
    found = []
    for many in range(len(dials) + 1):
        for outer in itertools.permutations(range(len(dials)), many):
            others = [dial for dial in range(len(dials)) if dial not in outer]
            for more in range(len(others) + 1):
                for inner in itertools.permutations(others, more):
                    held = product([dials[dial] for dial in outer]) * least_cut([dials[dial] for dial in inner])
                    found.append((2 * many + more, held, (outer, inner)))
    return found


def counted_row(sizes, count):
    row = []
    for place, size in enumerate(sizes):
        whole = count // product(sizes[place + 1:])
        left = whole % size
        row.append(left if whole // size % 2 == 0 else size - 1 - left)
    return tuple(row)


def mesh(inner):
    """The pairs of the left and the right count, stage by stage."""
    cuts = cuts_of(inner)
    gap = cuts.index(min(cuts)) + 1
    lefts, rights, near, far = product(inner[:gap]), product(inner[gap:]), inner[gap - 1], inner[gap]
    left = right = 0
    pairs = [(0, 0)]
    while (left, right) != (lefts - 1, rights - 1):
        ahead = right + 1
        if ahead < rights and left == min(ahead * near, lefts - 1 - (rights - 1 - ahead) // far):
            right = ahead
        else:
            left += 1
        pairs.append((left, right))
    return pairs


def nest_rows(outer, inner):
    """The rows of the life of a nest, laid out copy by copy and step by step."""
    if outer:
        rest = nest_rows(outer[1:], inner)
        sizes = outer[1:] + inner
        shift = [last - first for first, last in zip(rest[0], rest[-1])]
        return [(copy, *[(value + copy * more) % size for value, more, size in zip(row, shift, sizes)])
                for copy in range(outer[0]) for row in rest]
    if len(inner) < 2:
        return [(value,) for value in range(inner[0])] if inner else [()]
    cuts = cuts_of(inner)
    gap = cuts.index(min(cuts)) + 1
    return [counted_row(inner[:gap], left) + counted_row(inner[gap:][::-1], right)[::-1] for left, right in mesh(inner)]


def nest_tour(nest):
    outer, inner = nest
    dials = list(range(len(outer) + len(inner)))
    return tuple(dials + dials[:len(outer)][::-1])


def views_by_life(life, tour):
    """A dict with, for each view of a watch of the life, the set of pairs of the stages it begins and ends with."""
    times = [((row,), stage, stage) for row, stage in life[1]]
    return views_by_times(times, tour)


def weak_views(life, tour):
    """As views_by_life, for a lean life over weak dials: a look may fall within a turn."""
    times = []
    for (row, stage), (ahead, _) in zip(life[1], life[1][1:]):
        times += [((row,), stage, stage), ((row, ahead), stage, stage + 1)]
    return views_by_times([*times, ((life[1][-1][0],), len(life[1]) - 1, len(life[1]) - 1)], tour)


def views_by_times(times, tour):
    """As views_by_life, by times with the rows that may be seen, and the first and the last stage that stand."""
    if not tour:
        return {(): {(first, last) for _, first, last in times}}
    states = {((), first, time) for time, (_, first, _) in enumerate(times)}
    for place, dial in enumerate(tour):
        shown = [{row[dial] for row in rows} for rows, _, _ in times]
        states = {((*seen, value), first, later) for seen, first, time in states
                  for later in (range(time, len(times)) if place else (time,)) for value in shown[later]}
    found = {}
    for seen, first, time in states:
        found.setdefault(seen, set()).add((first, times[time][2]))
    return found


def right_for(spans, stages_many):
    """The stages that are met by each of the watches from a first to a last stage."""
    return tuple(stage for stage in range(stages_many) if all(first <= stage <= last for first, last in spans))


def hangs(net, lot):
    """Whether the stages of the lot hang together by the ties within it."""
    found, waiting = set(lot[:1]), list(lot[:1])
    while waiting:
        here = waiting.pop()
        for tie in net[1]:
            for one, other in (tie, tie[::-1]):
                if one == here and other in lot and other not in found:
                    found.add(other)
                    waiting.append(other)
    return len(found) == len(lot)


@functools.lru_cache(maxsize=None)
def blocks_of(net):
    """The greatest lots that hang together, also without any one stage."""
    firm = [lot for lot in lots(range(net[0])) if len(lot) > 1 and hangs(net, lot) and
            all(hangs(net, tuple(stage for stage in lot if stage != out)) for out in lot)]
    return tuple(sorted(lot for lot in firm if not any(set(lot) < set(other) for other in firm)))
