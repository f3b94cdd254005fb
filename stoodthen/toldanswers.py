"""The stages of a nest that are right for a view, and the one that is told."""

from stoodthen.errors import Unseen
from stoodthen.viewspans import first_end, last_begin


def is_seen(nest, view):
    """Whether some watch of the nest's life has the view."""
    try:
        first_end(nest, view)
    except Unseen:
        return False
    return True


def right_span(nest, view):
    """The least and the greatest stage that are right for the view."""
    last = first_end(nest, view)[-1]
    return (last_begin(nest, view)[0], last)


def told_stage(nest, view):
    """The least stage that is right for the view."""
    return right_span(nest, view)[0]
