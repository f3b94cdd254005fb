"""Two watches of a life with one view, the first one ending in a lower stage."""

from stoodthen.errors import InvalidPaper, need
from stoodthen.kinds import is_tour, is_tuple_of
from stoodthen.lives import first_moments
from stoodthen.views import is_steady, view_of


def two_looks(life, tour):
    """The moments of two such watches, or None."""
    need(is_tour(life[0], tour) and tour != (), "tour")
    following = [following_shows(life, dial) for dial in range(len(life[0]))]
    for border in first_moments(life)[1:]:
        pairs = looks_around(life, tour, following, border)
        if pairs is not None:
            return (tuple([one for one, _ in pairs]), tuple([other for _, other in pairs]))
    return None


def following_shows(life, dial):
    """For each moment, and one more, a dict of the next moment that shows each value."""
    shows = [{}]
    for moment, (row, _) in list(enumerate(life[1]))[::-1]:
        further = dict(shows[-1])
        further[row[dial]] = moment
        shows.append(further)
    return shows[::-1]


def looks_around(life, tour, following, border):
    """For each look a moment below border and one from border on, or None.

    For each moment below border it is kept which least moment of the second
    watch goes with a last look of the first one up to there: what begins
    earlier can go on with all that what begins later can go on with.
    """
    least = [(border, None) for _ in range(border)]
    for dial in tour:
        values = [row[dial] for row, _ in life[1][:border]]
        least = least_after(values, least, following[dial])
        if least[-1] is None:
            return None
    pairs = []
    _, chain = least[-1]
    while chain is not None:
        pair, chain = chain
        pairs.append(pair)
    return pairs[::-1]


def least_after(values, least, following):
    """What is kept behind one more look, which sees these values in the first watch."""
    further = []
    best = None
    for moment, value in enumerate(values):
        if least[moment] is not None:
            second, chain = least[moment]
            found = following[second].get(value)
            if found is not None and (best is None or found < best[0]):
                best = (found, ((moment, found), chain))
        further.append(best)
    return further


def lets_two_looks(life, tour, thing):
    """The view of the two watches; InvalidPaper if thing is no such pair."""
    need(is_tour(life[0], tour) and tour != (), "tour")
    if not is_tuple_of(thing, 2):
        raise InvalidPaper("shape", -1)
    for place, moments in enumerate(thing):
        if not is_steady(len(life[1]), len(tour), moments):
            raise InvalidPaper("moments", place)
    first, second = thing
    view = view_of(life, tour, first)
    if view != view_of(life, tour, second):
        raise InvalidPaper("views", -1)
    if not life[1][first[-1]][1] < life[1][second[0]][1]:
        raise InvalidPaper("stages", -1)
    return view
