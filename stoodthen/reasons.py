"""Works, and why events are barred."""

from stoodthen.deskevents import is_event
from stoodthen.deskworks import held_of, is_named_work, stage_of
from stoodthen.errors import need
from stoodthen.nestkinds import nest_dials
from stoodthen.nets import tied_to
from stoodthen.rowtools import rows_many

MOST_STAGES = 12
MOST_TIES = 24
MOST_NET_DIALS = 24


def is_works(thing):
    """Whether thing is a tuple of pairs (name, work), ascending, no name twice."""
    if not (isinstance(thing, tuple) and all([is_named_work(pair) for pair in thing])):
        return False
    return all([one[0] < other[0] for one, other in zip(thing, thing[1:])])


def reason_of(works, event):
    """Why the event, any value, is barred, or None."""
    need(is_works(works), "works")
    return barred_by(works, event)


def barred_by(works, event):
    """As reason_of, by what are known to be works."""
    if not is_event(event):
        return "shape"
    if event[0] == "day":
        return None
    word, name, *rest = event
    work = dict(works).get(name)
    if (work is None) != (word in ("line", "net")):
        return "name"
    if word in ("go", "grow"):
        return line_barred(work, word, rest[0])
    if word in ("pass", "hang"):
        return net_barred(work, word, rest)
    return None


def line_barred(work, word, number):
    """Why the work may not go, or grow, by this number."""
    if work[0] != "line":
        return "line"
    if word == "go":
        return None if stage_of(work) + number < held_of(work) else "room"
    # More than two hundred dials, of at least two values each, always have a greater product.
    return "size" if rows_many(nest_dials(work[1])) * number > 10 ** 60 else None


def net_barred(work, word, rest):
    """Why the work may not pass to a stage, or have another net hung on there."""
    if work[0] != "net":
        return "net"
    (size, ties), dials = work[1:3]
    if word == "pass":
        return None if rest[0] in tied_to(work[1], stage_of(work)) else "tie"
    at, other, more, _ = rest
    if at >= size:
        return "stage"
    if size + other[0] - 1 > MOST_STAGES or len(ties) + len(other[1]) > MOST_TIES:
        return "size"
    return "size" if len(dials) + len(more) > MOST_NET_DIALS else None
