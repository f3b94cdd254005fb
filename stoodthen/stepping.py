"""What events make of works."""

from stoodthen.errors import InvalidEvent, need
from stoodthen.growing import grown_nest, hung_whole
from stoodthen.heldrows import turned_row, turns_by
from stoodthen.reasons import barred_by, is_works


def stepped(works, event):
    """The works after the event, any value, or InvalidEvent."""
    need(is_works(works), "works")
    return works_after(works, event)


def works_after(works, event):
    """As stepped, of what are known to be works."""
    reason = barred_by(works, event)
    if reason is not None:
        raise InvalidEvent(event, reason)
    if event[0] == "day":
        return works
    word, name, *rest = event
    named = dict(works)
    others = [pair for pair in works if pair[0] != name]
    if word == "drop":
        return tuple(others)
    work = opened(word, rest) if name not in named else changed(named[name], word, rest)
    return tuple(sorted([*others, (name, work)]))


def opened(word, rest):
    """A work at its beginning, of a nest or of a holding."""
    if word == "line":
        outer, inner = rest
        return ("line", (outer, inner), 0, 0)
    net, dials, holding = rest
    return ("net", net, dials, holding, (0,) * len(dials), 0, 0)


def changed(work, word, rest):
    """The work after it went on, passed a tie, grew, or had another net hung on."""
    if work[0] == "line":
        _, nest, stage, grown = work
        if word == "go":
            return ("line", nest, stage + rest[0], grown)
        return ("line", grown_nest(nest, rest[0]), stage, grown + 1)
    _, net, dials, holding, row, stage, hung = work
    if word == "pass":
        turn = turns_by(net, dials, holding)[(stage, rest[0])]
        return ("net", net, dials, holding, turned_row(row, turn), rest[0], hung)
    at, other, more, held = rest
    whole = hung_whole(net, dials, holding, at, other, more, held)
    return ("net", *whole, row + (0,) * len(more), stage, hung + 1)
