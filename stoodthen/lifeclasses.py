"""Lives as objects."""

from stoodthen.errors import need
from stoodthen.kinds import is_dials
from stoodthen.lifechanges import cut_life, turned_back
from stoodthen.lifechecker import is_life
from stoodthen.lives import is_lean, stage_at, stages_many


class Life:
    """A life of these dials with these spots."""

    def __init__(self, dials, spots):
        need(is_dials(dials), "dials")
        need(is_life((dials, spots)), "spots")
        self._dials = dials
        self._spots = spots

    def __eq__(self, other):
        return isinstance(other, Life) and self._dials == other._dials and self._spots == other._spots

    def __len__(self):
        return len(self._spots)

    def lean(self):
        """Whether it is lean."""
        return is_lean(self.told())

    def stages(self):
        """How many stages it has."""
        return stages_many(self.told())

    def stage(self, moment):
        """The stage of the spot at moment."""
        return stage_at(self.told(), moment)

    def back(self):
        """The Life turned back."""
        dials, spots = turned_back(self.told())
        return Life(dials, spots)

    def cut(self, many):
        """The Life of its first many stages."""
        dials, spots = cut_life(self.told(), many)
        return Life(dials, spots)

    def told(self):
        """The pair of its dials and its spots."""
        return (self._dials, self._spots)
