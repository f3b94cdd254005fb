"""Other slices made of slices: those of one reader alone, and those with whole turns."""

from stoodthen.errors import need
from stoodthen.kinds import is_number
from stoodthen.slicekinds import is_slices


def alone(slices, who):
    """The slices without the looks and halts of other readers than who."""
    need(is_slices(slices), "slices")
    need(is_number(who), "who")
    return tuple([piece for piece in slices if piece[0] not in ("look", "halt") or piece[1] == who])


def whole_turns(slices):
    """The slices with a step at once in the place of each beginning of a turn."""
    need(is_slices(slices), "slices")
    return tuple([stepped_whole(piece) for piece in slices if piece[0] != "end"])


def stepped_whole(piece):
    """The slice, or the step at once in the place of the beginning of a turn."""
    if piece[0] != "begin":
        return piece
    return ("go",) if len(piece) == 1 else ("pass", piece[1])
