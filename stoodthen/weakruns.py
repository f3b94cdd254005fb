"""Runs of lines over weak dials: which slices are let, and what looks see."""

from stoodthen.errors import need
from stoodthen.kinds import is_below, is_number
from stoodthen.lineworks import LineWork
from stoodthen.nestkinds import nest_dials
from stoodthen.runs import Run, need_done
from stoodthen.slicekinds import is_shade


def line_reason(nest, many, slices, piece):
    """Why piece, any value, is barred behind the slices, or None."""
    need(is_number(many), "many")
    return line_behind(nest, many, slices).barred(piece)


def dial_shows(nest, slices, dial, shade):
    """What a look at the dial with this shade sees behind the slices."""
    run = line_behind(nest, None, slices)
    need(is_below(dial, len(nest_dials(nest))), "dial")
    need(is_shade(shade), "shade")
    return run.shows(dial, shade)


def line_behind(nest, many, slices):
    """The run of the nest that has done the slices, each of them let; with many None each number is a reader."""
    run = Run(LineWork(nest), many)
    need_done(run, slices)
    return run
