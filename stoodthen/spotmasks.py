"""What comes to what, and lots of a machine's spots as integers, spot k as bit k."""


def come_to(ahead, starts, barred):
    """A dict of the starts and of all that they come to, without what is barred.

    ahead is a dict of lists of what comes next.
    """
    found = {start: True for start in starts}
    waiting = list(starts)
    while waiting:
        here = waiting.pop()
        for there in ahead.get(here, []):
            if there not in found and there not in barred:
                found[there] = True
                waiting.append(there)
    return found


def places_in(mask):
    """The ascending list of the spots of the mask."""
    places = []
    rest = mask
    while rest:
        lowest = rest & -rest
        places.append(lowest.bit_length() - 1)
        rest ^= lowest
    return places


def mask_of(places):
    """The mask of these spots."""
    mask = 0
    for place in places:
        mask |= 1 << place
    return mask


def first_in(mask):
    """The least spot of the mask, which is not 0."""
    return (mask & -mask).bit_length() - 1


def all_mask(machine):
    """The mask of all spots of the machine."""
    return (1 << len(machine[1])) - 1


def mask_without(machine, stage):
    """The mask of the spots of the machine that do not have the stage."""
    return mask_of([spot for spot, (_, at) in enumerate(machine[1]) if at != stage])


def move_masks(machine):
    """For each spot the mask of those to which a move goes from it."""
    masks = [0 for _ in machine[1]]
    for here, there in machine[2]:
        masks[here] |= 1 << there
    return masks


def show_masks(machine):
    """For each dial a dict with, for each value shown, the mask of the spots showing it."""
    dials, spots, _ = machine
    masks = [{} for _ in dials]
    for spot, (row, _) in enumerate(spots):
        for dial, value in enumerate(row):
            masks[dial][value] = masks[dial].get(value, 0) | 1 << spot
    return masks


def ahead_of(moves, mask):
    """The mask of the spots to which a move goes from one of the mask."""
    ahead = 0
    for place in places_in(mask):
        ahead |= moves[place]
    return ahead


def spread(moves, mask, within):
    """The mask of the spots that come from the mask by moves within a mask around it."""
    reached = mask
    fresh = mask
    while fresh:
        fresh = ahead_of(moves, fresh) & within & ~reached
        reached |= fresh
    return reached


def way_into(moves, starts, goal, within):
    """A shortest list of spots from one of the starts to the goal, by moves within."""
    edges = [starts]
    reached = starts
    while not edges[-1] >> goal & 1:
        fresh = ahead_of(moves, edges[-1]) & within & ~reached
        reached |= fresh
        edges.append(fresh)
    way = [goal]
    for edge in edges[-2::-1]:
        before = [spot for spot in places_in(edge) if moves[spot] >> way[-1] & 1]
        way.append(before[0])
    return way[::-1]
