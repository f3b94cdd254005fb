"""The work of a nest: it goes through the stages of its line over weak dials."""

from stoodthen.nestkinds import nest_held, nest_tour
from stoodthen.nestrows import row_at
from stoodthen.slicekinds import is_slice
from stoodthen.weaktold import weak_stage


class LineWork:
    """The work of this nest, at stage 0, with readers that look by its tour."""

    def __init__(self, nest):
        self._nest = nest
        self._stage = 0
        self._turning = False

    def is_piece(self, thing):
        """Whether thing is a slice of this work."""
        return is_slice(thing)

    def turning(self):
        """Whether a turn lasts."""
        return self._turning

    def bars(self, _piece):
        """Why a step of the work is barred while no turn lasts, or None."""
        return "last" if self._stage == nest_held(self._nest) - 1 else None

    def move(self, piece):
        """Do a step of the work, or the beginning or the end of one."""
        self._turning = piece[0] == "begin"
        if not self._turning:
            self._stage += 1

    def stands(self):
        """The lot of the stages that stand."""
        return (self._stage, self._stage + 1) if self._turning else (self._stage,)

    def shows(self, dial, shade):
        """What a look at the dial with this shade sees."""
        newer = self._turning and shade == "new"
        return row_at(self._nest, self._stage + 1 if newer else self._stage)[dial]

    def order(self, _who):
        """The dials in the sequence in which a reader looks at them."""
        return nest_tour(self._nest)

    def told(self, _who, seen):
        """The pair of the view and the stage told for what a reader saw, look by look."""
        return (seen, weak_stage(self._nest, seen))
