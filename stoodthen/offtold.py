"""What is told of the code of a nest that is kept for off."""

from stoodthen.errors import need
from stoodthen.kinds import is_number
from stoodthen.offbounds import stages_each
from stoodthen.toldanswers import right_span


def off_span(nest, off, view):
    """The least and the greatest answer right but for off to each watch with this view."""
    need(is_number(off), "off")
    first, last = right_span(nest, view)
    return (first * stages_each(off) + off, last * stages_each(off) + off)


def off_stage(nest, off, view):
    """The least of these answers."""
    return off_span(nest, off, view)[0]
