"""The left and the right count of a nest without outer sizes, and how their steps mesh."""

from stoodthen.errors import need
from stoodthen.kinds import is_below
from stoodthen.leastcuts import cut_gap
from stoodthen.rowtools import rows_many


def halves_of(inner):
    """The products of the sizes of both halves, and the two sizes at the gap."""
    left_sizes, right_sizes = counted_sizes(inner)
    return (rows_many(left_sizes), rows_many(right_sizes), left_sizes[-1], right_sizes[-1])


def counted_sizes(inner):
    """The sizes by which the left count goes, and those of the right one, reversed."""
    need(len(inner) > 1, "inner")
    gap = cut_gap(inner)
    return inner[:gap], inner[gap:][::-1]


def is_left(inner, dial):
    """Whether the dial shows a value of the left count."""
    return dial < cut_gap(inner)


def half_of(inner, dial):
    """The sizes of the count of which the dial shows a value, and its place in them."""
    left_sizes, right_sizes = counted_sizes(inner)
    if is_left(inner, dial):
        return left_sizes, dial
    return right_sizes, len(inner) - 1 - dial


def right_comes(inner, right):
    """The left count at which the right count steps to right."""
    halves = halves_of(inner)
    need(is_below(right, halves[1]) and right > 0, "right")
    return left_with(halves, right)


def left_with(halves, right):
    """As right_comes, told by the halves; 0 for the right count 0."""
    lefts, rights, near, far = halves
    return min(right * near, lefts - 1 - (rights - 1 - right) // far)


def rights_ahead(inner, left):
    """The right count just before the left count steps to left."""
    halves = halves_of(inner)
    need(is_below(left, halves[0]), "left")
    return right_with(halves, left)


def right_with(halves, left):
    """As rights_ahead, told by the halves."""
    lefts, rights, near, far = halves
    # The right count has come to j if one of the two numbers of left_with is below left. As
    # the gap is that of the least cut, neither tells of more right counts than there are.
    by_near = (left - 1) // near
    by_far = rights - 1 - (lefts - left) * far
    return max(by_near, by_far, 0)


def counts_at(inner, stage):
    """The left and the right count at the stage."""
    halves = halves_of(inner)
    need(is_below(stage, halves[0] + halves[1] - 1), "stage")
    low = 0
    high = halves[0] - 1
    while low < high:
        left = (low + high + 1) // 2
        if left + right_with(halves, left) <= stage:
            low = left
        else:
            high = left - 1
    return (low, stage - low)


def left_begins(inner, left):
    """The first stage with this left count."""
    return left + rights_ahead(inner, left)


def right_begins(inner, right):
    """The first stage with this right count."""
    halves = halves_of(inner)
    need(is_below(right, halves[1]), "right")
    return right + left_with(halves, right)
