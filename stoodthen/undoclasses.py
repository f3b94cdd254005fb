"""The work of a holding as an object."""

from stoodthen.errors import need
from stoodthen.growing import hung_holding
from stoodthen.heldmachines import held_machine
from stoodthen.heldrows import passed_row, rows_at
from stoodthen.holdkinds import lets_holding, need_holding
from stoodthen.netchecker import is_net
from stoodthen.sinks import held_told


class Undo:
    """The work of this holding of this net in these dials."""

    def __init__(self, net, dials, holding):
        need(is_net(net), "net")
        need_holding(net, dials, holding)
        self._held = (net, dials, holding)

    def __eq__(self, other):
        return isinstance(other, Undo) and self._held == other._held

    def rows(self, stage):
        """All rows that the work can have at the stage."""
        net, dials, holding = self._held
        return rows_at(net, dials, holding, stage)

    def passed(self, row, here, there):
        """The row behind the tie, when the work goes from here to there with row at here."""
        net, dials, holding = self._held
        return passed_row(net, dials, holding, row, here, there)

    def told(self, row):
        """The least sink of what the row tells."""
        net, dials, holding = self._held
        return held_told(net, dials, holding, row)

    def spare(self):
        """For each dial how many values stay unused."""
        net, dials, holding = self._held
        return lets_holding(net, dials, holding)

    def machine(self):
        """The machine of the work."""
        net, dials, holding = self._held
        return held_machine(net, dials, holding)

    def hung(self, stage, other, more, held):
        """The Undo of the net with the other one, held in more, hung on at the stage."""
        net, dials, holding = self._held
        whole, all_dials, entries = hung_holding(net, dials, holding, stage, other, more, held)
        return Undo(whole, all_dials, entries)
