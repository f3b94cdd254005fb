"""Events, logs and works as lines of text."""

from stoodthen.deskevents import is_event, is_log
from stoodthen.deskworks import row_of, stage_of
from stoodthen.errors import InvalidRow, need
from stoodthen.fieldreaders import Fields, line_of, text_lines
from stoodthen.lifetexts import groups_line
from stoodthen.reasons import is_works


def event_line(event):
    """The line of the event."""
    need(is_event(event), "event")
    return line_of(counted(event))


def counted(event):
    """The event with the numbers of outer sizes, dials and ties ahead of them."""
    word, *rest = event
    if word == "line":
        name, outer, inner = rest
        return (word, name, len(outer), outer, inner)
    if word == "net":
        name, net, dials, holding = rest
        return (word, name, *counted_held(net, dials), holding)
    if word == "hang":
        name, stage, other, more, held = rest
        return (word, name, stage, *counted_held(other, more), held)
    return event


def counted_held(net, dials):
    """The net and the dials, each with how many ties or dials there are."""
    size, ties = net
    return (size, len(ties), ties, len(dials), dials)


def read_event(text):
    """The event of such a line."""
    need(isinstance(text, str), "text")
    return event_in(0, text)


def event_in(line, text):
    """The event that the line with this number tells."""
    fields = Fields(line, text)
    event = event_from(fields)
    fields.need_end()
    if not is_event(event):
        raise InvalidRow(line)
    return event


def event_from(fields):
    """What the fields tell, of the form of an event."""
    word = fields.take_word(("line", "net", "go", "pass", "grow", "hang", "drop", "day"))
    if word == "day":
        return (word,)
    name = fields.take_name()
    if word == "drop":
        return (word, name)
    if word == "line":
        outer = fields.take_many(fields.take_number())
        return (word, name, outer, () if fields.ended() else fields.take_numbers())
    if word == "net":
        return (word, name, *held_from(fields))
    number = fields.take_number()
    return (word, name, number, *held_from(fields)) if word == "hang" else (word, name, number)


def held_from(fields):
    """The triple of a net, its dials and the holding that the fields up to the end tell."""
    size = fields.take_number()
    ties = []
    many = fields.take_number()
    while len(ties) < many:
        ties.append(fields.take_many(2))
    dials = fields.take_many(fields.take_number())
    holding = []
    while not fields.ended():
        word = fields.take_word(("dial", "ties"))
        holding.append((word, fields.take_number() if word == "dial" else fields.take_numbers()))
    return ((size, tuple(ties)), dials, tuple(holding))


def log_text(log):
    """The lines of the log's events, parted by newlines."""
    need(is_log(log), "log")
    return "\n".join([event_line(event) for event in log])


def read_log(text):
    """The log of such a text."""
    need(isinstance(text, str), "text")
    return tuple([event_in(number, line) for number, line in enumerate(text_lines(text))])


def works_line(works):
    """A group of fields for each work: its name, word, stage and row."""
    need(is_works(works), "works")
    return groups_line([(name, work[0], stage_of(work), *row_of(work)) for name, work in works])
