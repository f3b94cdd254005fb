"""What there is to ask of works."""

from stoodthen.deskclaims import holds_of, is_claim
from stoodthen.deskevents import is_name
from stoodthen.deskworks import held_of, row_of, stage_of
from stoodthen.errors import need
from stoodthen.kinds import is_below, is_row, is_view
from stoodthen.nestkinds import nest_dials, nest_tour
from stoodthen.reasons import is_works
from stoodthen.sinks import held_told
from stoodthen.toldanswers import told_stage


class DeskAsks:
    """Tells of these works."""

    def __init__(self, works):
        need(is_works(works), "works")
        self._works = works

    def works(self):
        """The works."""
        return self._works

    def names_now(self):
        """The tuple of the names of the works."""
        return tuple([name for name, _ in self._works])

    def row_now(self, name):
        """The row that the dials of the work show."""
        return row_of(work_called(self._works, name))

    def stage_now(self, name):
        """The stage of the work."""
        return stage_of(work_called(self._works, name))

    def held_now(self, name):
        """How many stages the nest of the work holds, or its net has."""
        return held_of(work_called(self._works, name))

    def told(self, name, seen):
        """The stage told for what is seen: a view of a line, a row of a net; or Unseen."""
        work = work_called(self._works, name)
        if work[0] == "line":
            need(is_view(nest_dials(work[1]), nest_tour(work[1]), seen), "seen")
            return told_stage(work[1], seen)
        net, dials, holding = work[1:4]
        need(is_row(dials, seen), "seen")
        return held_told(net, dials, holding, seen)

    def old_told(self, name, times, view):
        """The stage told for a view of the line as it was ahead of its last times growings; or Unseen."""
        work = work_called(self._works, name)
        need(work[0] == "line", "name")
        outer, inner = work[1]
        need(is_below(times, work[3] + 1), "times")
        return told_stage((outer[times:], inner), view)

    def holds(self, claim):
        """Whether the claim holds."""
        need(is_claim(claim), "claim")
        return holds_of(dict(self._works), claim)


def work_called(works, name):
    """The work with this name, any value."""
    work = dict(works).get(name) if is_name(name) else None
    need(work is not None, "name")
    return work
