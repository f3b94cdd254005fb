"""The code of a nest as an object."""

from stoodthen.errors import need
from stoodthen.kinds import is_size, is_sizes
from stoodthen.nestkinds import is_nest, nest_held
from stoodthen.nestlives import life_by
from stoodthen.nestrows import row_at, shift_of, stage_by
from stoodthen.nestturns import nest_turns, turn_at


class Code:
    """The code of the nest of these outer and inner sizes."""

    def __init__(self, outer, inner):
        need(is_sizes(outer), "outer")
        need(is_nest((outer, inner)), "inner")
        self._nest = (outer, inner)

    def __eq__(self, other):
        return isinstance(other, Code) and self._nest == other._nest

    def held(self):
        """How many stages the nest holds."""
        return nest_held(self._nest)

    def row(self, stage):
        """The row of the stage."""
        return row_at(self._nest, stage)

    def stage(self, row):
        """The stage with this row, or None."""
        return stage_by(self._nest, row)

    def turn(self, stage):
        """The dial that is turned when the stage begins, and the value that it gets."""
        return turn_at(self._nest, stage)

    def shift(self):
        """The shift of the nest."""
        return shift_of(self._nest)

    def turns(self, dial):
        """How often the dial is turned."""
        return nest_turns(self._nest, dial)

    def life(self, many):
        """The life of the first many stages."""
        return life_by(self._nest, many)

    def grown(self, size):
        """The Code of the nest with the size ahead of its outer sizes."""
        need(is_size(size), "size")
        outer, inner = self._nest
        return Code((size, *outer), inner)
