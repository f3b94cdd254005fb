"""Lines of groups of fields, and lives written as such."""

from stoodthen.errors import InvalidPaper, InvalidRow, InvalidText, need
from stoodthen.lifechecker import lets_life


def life_line(life):
    """The line of the life: its sizes, then each row with its stage."""
    dials, spots = life
    return groups_line([dials, *[(*row, stage) for row, stage in spots]])


def read_life(text):
    """The life of such a line."""
    need(isinstance(text, str), "text")
    groups = read_groups(text, number_may_stand)
    if len(groups) < 2:
        raise InvalidText(0, fields_many(text))
    spots = [numbers_of(group) for group in groups[1:]]
    life = (numbers_of(groups[0]), tuple([(spot[:-1], spot[-1]) for spot in spots]))
    try:
        lets_life(life)
    except InvalidPaper as refused:
        raise InvalidRow(refused.at) from None
    return life


def groups_line(groups):
    """The line of the groups, each a tuple of numbers and words."""
    return "; ".join([" ".join([str(field) for field in group]) for group in groups])


def read_groups(text, may_stand):
    """The groups of the text, lists of strings; may_stand tells of each field."""
    groups = [[]]
    for place, field in enumerate(text.split(" ")):
        ends = field.endswith(";")
        core = field[:-1] if ends else field
        if not may_stand(groups, core, ends):
            raise InvalidText(0, place)
        groups[-1].append(core)
        if ends:
            groups.append([])
    if not groups[-1]:
        raise InvalidText(0, fields_many(text))
    return groups


def fields_many(text):
    """How many fields the text has."""
    return len(text.split(" "))


def number_may_stand(_groups, core, _ends):
    """Whether a field may stand where numbers alone do, in groups of any length."""
    return is_figures(core)


def is_figures(core):
    """Whether core is a number in figures, without needless zeros."""
    if not (core.isascii() and core.isdigit()):
        return False
    return core == "0" or not core.startswith("0")


def numbers_of(group):
    """The tuple of the numbers of a group."""
    return tuple([int(core) for core in group])
