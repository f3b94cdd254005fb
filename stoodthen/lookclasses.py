"""A machine and a tour of it as one object."""

from stoodthen.errors import need
from stoodthen.kinds import is_tour
from stoodthen.machinechecker import is_machine
from stoodthen.rightstages import answer_table, first_torn, is_safe, right_stages
from stoodthen.seenviews import views_of
from stoodthen.views import stages_met


class Looks:
    """The looks of this tour at this machine."""

    def __init__(self, machine, tour):
        need(is_machine(machine), "machine")
        need(is_tour(machine[0], tour), "tour")
        self._machine = machine
        self._tour = tour

    def __eq__(self, other):
        return isinstance(other, Looks) and self._machine == other._machine and self._tour == other._tour

    def views(self):
        """All views that some watch has."""
        return views_of(self._machine, self._tour)

    def right(self, view):
        """The lot of the stages that are right for the view."""
        return right_stages(self._machine, self._tour, view)

    def safe(self):
        """Whether the tour is safe for the machine."""
        return is_safe(self._machine, self._tour)

    def torn(self):
        """The first view that some watch has and for which no stage is right, or None."""
        return first_torn(self._machine, self._tour)

    def table(self):
        """The pairs of each view that some watch has and its least right stage."""
        return answer_table(self._machine, self._tour)

    def met(self, walk):
        """The lot of the stages of the walk's spots."""
        return stages_met(self._machine, walk)
