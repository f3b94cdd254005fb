"""The work of a holding: it goes along the ties of its net over weak dials."""

from stoodthen.heldrows import turned_row, turns_by
from stoodthen.sinks import held_told
from stoodthen.slicekinds import is_pass


class HeldWork:
    """The work of this holding, at stage 0; each reader looks by an order of its own, all by None as the dials come."""

    def __init__(self, net, dials, holding, orders):
        self._held = (net, dials, holding)
        self._orders = orders
        self._turns = turns_by(net, dials, holding)
        self._row = (0,) * len(dials)
        self._stage = 0
        self._ahead = None

    def is_piece(self, thing):
        """Whether thing is a slice of this work."""
        return is_pass(thing)

    def turning(self):
        """Whether a turn lasts."""
        return self._ahead is not None

    def bars(self, piece):
        """Why a step of the work is barred while no turn lasts, or None."""
        return None if (self._stage, piece[1]) in self._turns else "tie"

    def move(self, piece):
        """Do a step of the work, or the beginning or the end of one."""
        if piece[0] == "begin":
            self._ahead = piece[1]
            return
        ahead = self._ahead if piece[0] == "end" else piece[1]
        self._row = self.row_behind(ahead)
        self._stage = ahead
        self._ahead = None

    def row_behind(self, ahead):
        """The row of the dials when the work has gone to the stage ahead."""
        return turned_row(self._row, self._turns[(self._stage, ahead)])

    def stands(self):
        """The lot of the stages that stand."""
        if self._ahead is None:
            return (self._stage,)
        return tuple(sorted([self._stage, self._ahead]))

    def shows(self, dial, shade):
        """What a look at the dial with this shade sees."""
        newer = self._ahead is not None and shade == "new"
        row = self.row_behind(self._ahead) if newer else self._row
        return row[dial]

    def order(self, who):
        """The dials in the sequence in which the reader looks at them."""
        if self._orders is None:
            return tuple(range(len(self._row)))
        return self._orders[who]

    def told(self, who, seen):
        """The pair of the row and the stage told for what the reader saw, look by look."""
        shown = dict(zip(self.order(who), seen))
        row = tuple([shown[dial] for dial in range(len(seen))])
        net, dials, holding = self._held
        return (row, held_told(net, dials, holding, row))
