"""What is told for a nest, as an object."""

from stoodthen.errors import need
from stoodthen.kinds import is_sizes
from stoodthen.nestkinds import is_nest
from stoodthen.offtold import off_stage
from stoodthen.toldanswers import is_seen, right_span, told_stage
from stoodthen.treereaders import nest_reader
from stoodthen.weaktold import weak_stage


class Teller:
    """Tells for the nest of these outer and inner sizes."""

    def __init__(self, outer, inner):
        need(is_sizes(outer), "outer")
        need(is_nest((outer, inner)), "inner")
        self._nest = (outer, inner)

    def __eq__(self, other):
        return isinstance(other, Teller) and self._nest == other._nest

    def told(self, view):
        """The least stage that is right for the view."""
        return told_stage(self._nest, view)

    def span(self, view):
        """The least and the greatest stage that are right for the view."""
        return right_span(self._nest, view)

    def seen(self, view):
        """Whether some watch has the view."""
        return is_seen(self._nest, view)

    def weak(self, view):
        """A stage that each watch over weak dials with this view meets."""
        return weak_stage(self._nest, view)

    def near(self, off, view):
        """The least answer right but for off to each watch with this view."""
        return off_stage(self._nest, off, view)

    def reader(self):
        """A reader that is right for the nest's life."""
        return nest_reader(self._nest)
