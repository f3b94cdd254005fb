"""Runs of nests and of holdings as objects."""

from stoodthen.errors import need
from stoodthen.heldworks import HeldWork
from stoodthen.holdkinds import need_holding
from stoodthen.kinds import is_number, is_sizes
from stoodthen.lineworks import LineWork
from stoodthen.nestkinds import is_nest
from stoodthen.netchecker import is_net
from stoodthen.runs import Run
from stoodthen.undoruns import is_orders


class LineRun:
    """A run of the nest of these outer and inner sizes, with so many readers, without slices."""

    def __init__(self, outer, inner, many):
        need(is_sizes(outer), "outer")
        need(is_nest((outer, inner)), "inner")
        need(is_number(many), "many")
        self._made = (outer, inner, many)
        self._run = Run(LineWork((outer, inner)), many)

    def __eq__(self, other):
        return isinstance(other, LineRun) and self._made == other._made and self.log() == other.log()

    def go(self):
        """The work goes on to the next stage at once."""
        self._run.put(("go",))

    def begin(self):
        """The turn to the next stage begins."""
        self._run.put(("begin",))

    def end(self):
        """The turn ends."""
        self._run.put(("end",))

    def look(self, who, shade):
        """The reader makes one look; the stage told if it ends a watch, otherwise None."""
        return self._run.told_by_look(who, shade)

    def halt(self, who):
        """The reader looks no more."""
        self._run.put(("halt", who))

    def log(self):
        """The tuple of the slices done."""
        return self._run.log()

    def rows(self):
        """A row (who, begin, end, view, stage) for each watch that has ended."""
        return self._run.rows()

    def stands(self):
        """The least and the greatest stage that stand."""
        stands = self._run.stands()
        return (stands[0], stands[-1])


class UndoRun:
    """A run of this holding, with a reader for each order, without slices."""

    def __init__(self, net, dials, holding, orders):
        need(is_net(net), "net")
        need_holding(net, dials, holding)
        need(is_orders(dials, orders), "orders")
        self._made = (net, dials, holding, orders)
        self._run = Run(HeldWork(net, dials, holding, orders), len(orders))

    def __eq__(self, other):
        return isinstance(other, UndoRun) and self._made == other._made and self.log() == other.log()

    def go(self, stage):
        """The work goes along a tie to the stage at once."""
        self._run.put(("pass", stage))

    def begin(self, stage):
        """The turn to the stage begins."""
        self._run.put(("begin", stage))

    def end(self):
        """The turn ends."""
        self._run.put(("end",))

    def look(self, who, shade):
        """The reader makes one look; the stage told if it ends a watch, otherwise None."""
        return self._run.told_by_look(who, shade)

    def halt(self, who):
        """The reader looks no more."""
        self._run.put(("halt", who))

    def log(self):
        """The tuple of the slices done."""
        return self._run.log()

    def rows(self):
        """A row (who, begin, end, view, stage) for each watch that has ended."""
        return self._run.rows()

    def stands(self):
        """The lot of the stages that stand."""
        return self._run.stands()
