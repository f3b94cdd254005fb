"""Names, events and logs of the desk."""

from stoodthen.holdkinds import is_held
from stoodthen.kinds import is_filled_tuple, is_number, is_size, is_stages
from stoodthen.nestkinds import is_nest

LETTERS = "abcdefghijklmnopqrstuvwxyz"


def is_name(thing):
    """Whether thing is a string of one to twelve letters from a to z."""
    if not isinstance(thing, str):
        return False
    return 1 <= len(thing) <= 12 and all([letter in LETTERS for letter in thing])


def is_event(thing):
    """Whether thing is an event."""
    if not is_filled_tuple(thing):
        return False
    if len(thing) == 1:
        return thing[0] == "day"
    return is_name(thing[1]) and is_named_event(thing)


def is_named_event(thing):
    """Whether thing, a tuple with a name in its place, is an event."""
    word = thing[0]
    many = len(thing)
    if many == 2:
        return word == "drop"
    if many == 3:
        return is_step(word, thing[2])
    if many == 4:
        return word == "line" and is_nest(thing[2:])
    if many == 5:
        return word == "net" and is_held(thing[2], thing[3], thing[4])
    return many == 6 and word == "hang" and is_number(thing[2]) and is_held(thing[3], thing[4], thing[5])


def is_step(word, thing):
    """Whether an event with this word may have thing as its one number."""
    if word == "go":
        return is_stages(thing)
    if word == "pass":
        return is_number(thing)
    return word == "grow" and is_size(thing)


def is_log(thing):
    """Whether thing is a tuple of events."""
    return isinstance(thing, tuple) and all([is_event(event) for event in thing])
