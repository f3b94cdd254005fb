"""How many stages are held by dials of two values, and how many such dials it takes."""

from stoodthen.errors import need
from stoodthen.kinds import is_number, is_stages


def bits_held(many, looks):
    """The most stages that so many dials of two values hold by so many looks."""
    need(many > 0, "many")
    need(is_number(looks), "looks")
    if looks <= many:
        return once_held(looks)
    twice = min(looks - many, many)
    return once_held(many - twice) << twice


def once_held(many):
    """The least cut of so many sizes of two."""
    half = many // 2
    return (1 << half) + (1 << (many - half)) - 1


def bits_for(stages, further):
    """The least number of dials of two values that hold so many stages by further looks more."""
    need(is_stages(stages), "stages")
    need(is_number(further), "further")
    bits = 1
    while bits_held(bits, bits + further) < stages:
        bits += 1
    return bits
