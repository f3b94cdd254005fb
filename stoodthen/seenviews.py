"""Which views are seen, and by which watches."""

from stoodthen.errors import need
from stoodthen.kinds import is_tour, is_view
from stoodthen.spotmasks import all_mask, first_in, move_masks, show_masks, spread, way_into


class Lookers:
    """The watches by a tour whose walks stay within some spots, by what they see."""

    def __init__(self, tour, moves, shows, within):
        self._tour = tour
        self._moves = moves
        self._shows = shows
        self._within = within
        self._spreads = {}
        self._seen = ()
        self._masks = [within]

    def at_last(self, seen):
        """The mask of the spots at which watches that saw this make the last look."""
        # Views come in ascending sequence: what they have in common is kept.
        kept = common_many(self._seen, seen)
        self._seen = self._seen[:kept]
        self._masks = self._masks[:kept + 1]
        for value in seen[kept:]:
            self.see(value)
        return self._masks[-1]

    def see(self, value):
        """Put one more look behind those kept, which sees the value."""
        dial = self._tour[len(self._seen)]
        showing = self._shows[dial].get(value, 0)
        self._masks.append(self.spread_of(self._masks[-1]) & showing)
        self._seen = (*self._seen, value)

    def spread_of(self, mask):
        """The mask of the spots that come from the mask within the spots."""
        if mask not in self._spreads:
            self._spreads[mask] = spread(self._moves, mask, self._within)
        return self._spreads[mask]

    def watch_for(self, view):
        """A watch with the view, or None."""
        if not self.at_last(view):
            return None
        walk = [first_in(self._masks[-1])]
        behind = [0 for _ in view[:1]]
        for mask in self._masks[-2:0:-1]:
            way = way_into(self._moves, mask, walk[0], self._within)
            walk = [*way[:-1], *walk]
            behind.append(len(walk) - 1)
        return (tuple(walk), tuple([len(walk) - 1 - more for more in behind[::-1]]))


def common_many(one, other):
    """How many entries the two have in common at their beginnings."""
    many = 0
    for here, there in zip(one, other):
        if here != there:
            return many
        many += 1
    return many


def all_lookers(machine, tour):
    """The Lookers of all watches of the machine."""
    return Lookers(tour, move_masks(machine), show_masks(machine), all_mask(machine))


def seen_by(machine, tour):
    """The ascending list of all views that some watch has."""
    lookers = all_lookers(machine, tour)
    views = [()]
    for dial in tour:
        further = [(*view, value) for view in views for value in range(machine[0][dial])]
        views = [view for view in further if lookers.at_last(view)]
    return views


def views_of(machine, tour):
    """All views that some watch has, ascending."""
    need(is_tour(machine[0], tour), "tour")
    return tuple(seen_by(machine, tour))


def can_see(machine, tour, view):
    """Whether some watch has the view."""
    need(is_view(machine[0], tour, view), "view")
    return all_lookers(machine, tour).at_last(view) != 0


def watch_with(machine, tour, view):
    """A watch that has the view, or None."""
    need(is_view(machine[0], tour, view), "view")
    return all_lookers(machine, tour).watch_for(view)
