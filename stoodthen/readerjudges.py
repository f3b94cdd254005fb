"""Whether readers are right for machines, and watches that show that one is not."""

from stoodthen.errors import InvalidPaper, need
from stoodthen.kinds import is_tuple_of
from stoodthen.readerchecker import is_reader
from stoodthen.readerruns import told_stages
from stoodthen.spotmasks import all_mask, come_to, first_in, mask_of, mask_without, places_in
from stoodthen.spotmasks import move_masks, show_masks, spread
from stoodthen.strongparts import strong_parts
from stoodthen.views import is_moments, is_walk_of, stages_met


def judged_reader(machine, reader):
    """The word "endless", "wrong" or "right"."""
    need(is_reader(machine[0], reader), "reader")
    if is_endless(machine, reader):
        return "endless"
    return "right" if wrong_stage(machine, reader) is None else "wrong"


def is_endless(machine, reader):
    """Whether some watch by the reader looks on for ever."""
    come = spots_at_steps(machine, reader, all_mask(machine), list(range(len(reader))))
    lasting = spots_for_ever(machine, reader)
    return any([here & there != 0 for here, there in zip(come, lasting)])


def spots_at_steps(machine, reader, within, steps):
    """For each step the mask of the spots at which watches within come to do it.

    A look is done at any spot that can be come to, the telling at the spot of
    the last look. Steps other than those handed in are not gone on with.
    """
    moves = move_masks(machine)
    shows = show_masks(machine)
    come = [0 for _ in reader]
    come[0] = within
    edge = {0: True}
    while edge:
        grown = {}
        for here in edge:
            ahead = spots_ahead(reader[here], shows, come[here])
            for step, seen in ahead:
                fresh = seen & ~come[step]
                if fresh and step in steps:
                    come[step] |= fresh if reader[step][0] == "tell" else spread(moves, fresh, within)
                    grown[step] = True
        edge = grown
    return come


def spots_ahead(step, shows, mask):
    """The pairs of each step with which a look at these spots goes on, and its spots."""
    if step[0] == "tell":
        return []
    _, dial, nexts = step
    return [(following, mask & shows[dial].get(value, 0)) for value, following in enumerate(nexts)]


def spots_for_ever(machine, reader):
    """For each step the mask of the spots in whose strong parts it looks on for ever.

    Who looks on for ever stays within one strong part from some look on.
    """
    shows = part_show_masks(machine)
    lasting = [0 if step[0] == "tell" else all_mask(machine) for step in reader]
    changing = True
    while changing:
        changing = False
        for place in reversed(range(len(reader))):
            mask = 0
            ahead = spots_ahead(reader[place], shows, lasting[place])
            for step, seen in ahead:
                mask |= seen & lasting[step]
            if mask != lasting[place]:
                lasting[place] = mask
                changing = True
    return lasting


def part_show_masks(machine):
    """For each dial a dict with, for each value, all spots of the parts that show it."""
    masks = [{} for _ in machine[0]]
    for part in strong_parts(machine):
        whole = mask_of(part)
        for spot in part:
            for dial, value in enumerate(machine[1][spot][0]):
                masks[dial][value] = masks[dial].get(value, 0) | whole
    return masks


def wrong_stage(machine, reader):
    """The least number that some watch tells without meeting it, or None."""
    for told in told_stages(machine[0], reader):
        within = mask_without(machine, told)
        come = spots_at_steps(machine, reader, within, steps_to(reader, told))
        for step, mask in zip(reader, come):
            if step == ("tell", told) and mask:
                return told
    return None


def steps_to(reader, told):
    """A dict of the steps from which one may come to the telling of this number."""
    before = {}
    for place, step in enumerate(reader):
        if step[0] == "look":
            for following in step[2]:
                before.setdefault(following, []).append(place)
    tells = [place for place, step in enumerate(reader) if step == ("tell", told)]
    return come_to(before, tells, {})


def wrong_watch(machine, reader):
    """A watch that ends and tells a number that is not a stage that it meets, or None."""
    need(is_reader(machine[0], reader), "reader")
    told = wrong_stage(machine, reader)
    if told is None:
        return None
    within = mask_without(machine, told)
    if reader[0][0] == "tell":
        return ((first_in(within),), ())
    return watch_along(way_to_telling(machine, reader, told, within))


def way_to_telling(machine, reader, told, within):
    """A shortest list of pairs (step, spot), by looks and by moves within, to the telling."""
    moves = move_masks(machine)
    start = [(0, spot) for spot in places_in(within)]
    before = {pair: None for pair in start}
    edge = start
    while True:
        further = []
        for pair in edge:
            for ahead in pairs_ahead(machine, reader, moves, within, pair):
                if ahead not in before:
                    before[ahead] = pair
                    further.append(ahead)
        for pair in further:
            if reader[pair[0]] == ("tell", told):
                return way_back(before, pair)
        edge = further


def pairs_ahead(machine, reader, moves, within, pair):
    """The pairs that one look or one move makes of a pair (step, spot)."""
    place, spot = pair
    if reader[place][0] == "tell":
        return []
    _, dial, nexts = reader[place]
    looked = (nexts[machine[1][spot][0][dial]], spot)
    return [looked, *[(place, there) for there in places_in(moves[spot] & within)]]


def way_back(before, last):
    """The list of pairs from one without a pair before to the last."""
    way = [last]
    while before[way[-1]] is not None:
        way.append(before[way[-1]])
    return way[::-1]


def watch_along(way):
    """The watch that goes through these pairs (step, spot)."""
    spots = [spot for _, spot in way]
    walk = [spots[0]]
    moments = []
    for spot in spots[1:]:
        if spot == walk[-1]:
            moments.append(len(walk) - 1)
        else:
            walk.append(spot)
    return (tuple(walk), tuple(moments))


def lets_wrong(machine, reader, thing):
    """The number told by the watch; InvalidPaper if thing is no such watch."""
    need(is_reader(machine[0], reader), "reader")
    if not is_tuple_of(thing, 2):
        raise InvalidPaper("shape", -1)
    walk, moments = thing
    looks = 0 if reader[0][0] == "tell" else 1
    if not is_walk_of(machine, looks, walk):
        raise InvalidPaper("walk", -1)
    if not is_moments_by(reader, walk, moments):
        raise InvalidPaper("moments", -1)
    return told_unmet(machine, reader, walk, moments)


def told_unmet(machine, reader, walk, moments):
    """The number told by the watch; InvalidPaper if it is told too soon, not at all, or met."""
    steps = steps_seen(machine, reader, walk, moments)
    if len(steps) <= len(moments):
        raise InvalidPaper("moments", -1)
    step = reader[steps[-1]]
    if step[0] == "look":
        raise InvalidPaper("end", -1)
    if step[1] in stages_met(machine, walk):
        raise InvalidPaper("met", -1)
    return step[1]


def is_moments_by(reader, walk, thing):
    """Whether thing is moments of the walk, none exactly if step 0 tells."""
    if not isinstance(thing, tuple):
        return False
    if (thing == ()) != (reader[0][0] == "tell"):
        return False
    return is_moments(walk, len(thing), thing)


def steps_seen(machine, reader, walk, moments):
    """The list of the steps that the reader comes to with looks at these moments."""
    steps = [0]
    for moment in moments:
        step = reader[steps[-1]]
        if step[0] == "tell":
            return steps
        steps.append(step[2][machine[1][walk[moment]][0][step[1]]])
    return steps
