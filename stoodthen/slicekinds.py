"""Slices of lines and of nets, of which runs are made."""

from stoodthen.kinds import is_number, is_tuple_of


def is_slice(thing):
    """Whether thing is a slice of a line."""
    return thing in (("go",), ("begin",)) or is_either(thing)


def is_pass(thing):
    """Whether thing is a slice of a net."""
    if is_tuple_of(thing, 2) and thing[0] in ("pass", "begin"):
        return is_number(thing[1])
    return is_either(thing)


def is_either(thing):
    """Whether thing is a slice of a line and of a net."""
    if is_tuple_of(thing, 2):
        return thing[0] == "halt" and is_number(thing[1])
    if is_tuple_of(thing, 3):
        return thing[0] == "look" and is_number(thing[1]) and is_shade(thing[2])
    return thing == ("end",)


def is_shade(thing):
    """Whether thing is "old" or "new"."""
    return thing in ("old", "new")


def is_slices(thing):
    """Whether thing is a tuple, possibly (), of slices all of a line, or all of a net."""
    if not isinstance(thing, tuple):
        return False
    return all([is_slice(piece) for piece in thing]) or all([is_pass(piece) for piece in thing])
