"""The rows of nests without outer sizes."""

from stoodthen.errors import need
from stoodthen.kinds import is_below, is_row
from stoodthen.leastcuts import least_cut
from stoodthen.meshes import counted_sizes, counts_at
from stoodthen.toandfro import count_by, counted_row


def core_row(inner, stage):
    """The row of the stage."""
    need(inner != (), "inner")
    need(is_below(stage, least_cut(inner)), "stage")
    if len(inner) == 1:
        return (stage,)
    left, right = counts_at(inner, stage)
    left_sizes, right_sizes = counted_sizes(inner)
    return counted_row(left_sizes, left) + counted_row(right_sizes, right)[::-1]


def core_stage(inner, row):
    """The stage with this row, or None."""
    need(inner != (), "inner")
    need(is_row(inner, row), "row")
    if len(inner) == 1:
        return row[0]
    left_sizes, right_sizes = counted_sizes(inner)
    left = count_by(left_sizes, row[:len(left_sizes)])
    right = count_by(right_sizes, row[len(left_sizes):][::-1])
    return left + right if counts_at(inner, left + right) == (left, right) else None
