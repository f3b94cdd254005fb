"""Papers that tell which stages of a life are right for a view."""

from stoodthen.errors import InvalidPaper
from stoodthen.kinds import is_below, is_tuple_of
from stoodthen.lifespans import early_moments, late_moments, moments_back, moments_forth, need_looks
from stoodthen.lives import stage_at


def answer_paper(life, tour, view):
    """The pair of the early and the late moments."""
    return (early_moments(life, tour, view), late_moments(life, tour, view))


def lets_answer(life, tour, view, thing):
    """The stages at the first late and the last early moment; InvalidPaper if thing is not that pair."""
    need_looks(life, tour, view)
    if not is_tuple_of(thing, 2):
        raise InvalidPaper("shape", -1)
    early, late = thing
    places = list(range(len(tour)))
    check_moments(life, "early", places, early, moments_forth(life, tour, view))
    check_moments(life, "late", places[::-1], late, moments_back(life, tour, view))
    return (stage_at(life, late[0]), stage_at(life, early[-1]))


def check_moments(life, word, places, moments, found):
    """Refuse moments that are not, place by place, those that were found as far as there are any."""
    if not is_tuple_of(moments, len(places)):
        raise InvalidPaper(word, -1)
    if not all([is_below(moment, len(life[1])) for moment in moments]):
        raise InvalidPaper(word, -1)
    for step, place in enumerate(places):
        if step == len(found) or moments[place] != found[step]:
            raise InvalidPaper(word, place)
