"""A tour of dials as an object, asked for its gaps."""

from stoodthen.cutpapers import cut_marks
from stoodthen.errors import need
from stoodthen.gaps import gap_bound, nested_form, tight_gap, tour_bound
from stoodthen.kinds import is_dials, is_tour
from stoodthen.lifechecker import is_life


class Cut:
    """This tour of these dials."""

    def __init__(self, dials, tour):
        need(is_dials(dials), "dials")
        need(is_tour(dials, tour), "tour")
        self._dials = dials
        self._tour = tour

    def __eq__(self, other):
        return isinstance(other, Cut) and self._dials == other._dials and self._tour == other._tour

    def gaps(self):
        """How many gaps the tour has."""
        return len(self._tour) + 1

    def bound(self, gap):
        """The bound of the gap."""
        return gap_bound(self._dials, self._tour, gap)

    def least(self):
        """The bound of the tour."""
        return tour_bound(self._dials, self._tour)

    def tight(self):
        """The first gap with this bound."""
        return tight_gap(self._dials, self._tour)

    def nested(self):
        """The pair (outer, inner) by which the tour is a nest's, or None."""
        return nested_form(self._dials, self._tour)

    def marks(self, life, gap):
        """For each stage of a life of these dials its word at the gap."""
        need(is_life(life) and life[0] == self._dials, "life")
        return cut_marks(life, self._tour, gap)
