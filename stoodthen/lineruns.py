"""Runs of lines: the watches that end, and what stood meanwhile."""

from stoodthen.errors import need
from stoodthen.kinds import is_number
from stoodthen.lineworks import LineWork
from stoodthen.runs import Run, stood_from
from stoodthen.weakruns import line_behind


def line_run(nest, many, slices):
    """A row (who, begin, end, view, stage) for each watch that ends, or InvalidEvent."""
    need(is_number(many), "many")
    need(isinstance(slices, tuple), "slices")
    run = Run(LineWork(nest), many)
    for piece in slices:
        run.put(piece)
    return run.rows()


def standing(nest, slices):
    """The least and the greatest stage that stand behind the slices."""
    stands = line_behind(nest, None, slices).stands()
    return (stands[0], stands[-1])


def stood_between(nest, slices, begin, end):
    """The least and the greatest stage that stand behind the slices at the places from begin to end."""
    stood = stood_from(line_behind(nest, None, slices), begin, end)
    return (stood[0], stood[-1])
