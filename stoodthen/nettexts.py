"""Nets and readers written as lines of groups of fields."""

from stoodthen.errors import InvalidPaper, InvalidRow, InvalidText, need
from stoodthen.kinds import is_dials
from stoodthen.lifetexts import fields_many, groups_line, is_figures, numbers_of, read_groups
from stoodthen.netchecker import lets_net
from stoodthen.readerchecker import is_reader, lets_reader


def net_line(net):
    """The line of the net: its size, then each tie."""
    size, ties = net
    return groups_line([(size,), *ties])


def read_net(text):
    """The net of such a line."""
    need(isinstance(text, str), "text")
    groups = [numbers_of(group) for group in read_groups(text, net_may_stand)]
    net = (groups[0][0], tuple(groups[1:]))
    try:
        lets_net(net)
    except InvalidPaper as refused:
        raise InvalidRow(refused.at) from None
    return net


def net_may_stand(groups, core, _ends):
    """Whether a field may stand in the line of a net behind these groups."""
    if len(groups) == 1 and groups[0]:
        return False
    return is_figures(core)


def reader_line(dials, reader):
    """The line of the reader: the sizes of its dials, then each step."""
    need(is_reader(dials, reader), "reader")
    return groups_line([dials, *[step_group(step) for step in reader]])


def step_group(step):
    """The fields of a step: its word, then all its numbers."""
    if step[0] == "look":
        return ("look", step[1], *step[2])
    return step


def read_reader(text):
    """The pair of the dials and the reader of such a line."""
    need(isinstance(text, str), "text")
    groups = read_groups(text, reader_may_stand)
    if len(groups) < 2 or len(groups[-1]) < 2:
        raise InvalidText(0, fields_many(text))
    dials = numbers_of(groups[0])
    if not is_dials(dials):
        raise InvalidRow(-1)
    reader = tuple([step_of(group) for group in groups[1:]])
    try:
        lets_reader(dials, reader)
    except InvalidPaper as refused:
        raise InvalidRow(refused.at) from None
    return (dials, reader)


def reader_may_stand(groups, core, ends):
    """Whether a field may stand in the line of a reader behind these groups."""
    if len(groups) > 1 and not groups[-1]:
        return core in ("look", "tell") and not ends
    return is_figures(core)


def step_of(group):
    """The step that a group is read as, of whatever numbers it has."""
    word, *fields = group
    numbers = numbers_of(fields)
    if word == "look":
        return ("look", numbers[0], numbers[1:])
    return ("tell", *numbers)
