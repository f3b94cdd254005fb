"""The stages of a life marked at a gap, and two watches told by a clash."""

from stoodthen.errors import InvalidPaper, need
from stoodthen.gaps import gap_dials
from stoodthen.kinds import is_below, is_tour, is_tuple_of
from stoodthen.lives import first_moments, stages_many


def need_gap(life, tour, gap):
    """Refuse what is no tour of the life's dials, or no gap of it."""
    need(is_tour(life[0], tour), "tour")
    need(is_below(gap, len(tour) + 1), "gap")


def kept_moments(life, tour, gap):
    """For each stage the moment of its first spot."""
    need_gap(life, tour, gap)
    return first_moments(life)


def cut_marks(life, tour, gap):
    """For each stage its word at the gap."""
    need_gap(life, tour, gap)
    shows = gap_shows(life, tour, gap)
    return tuple([mark_of(shows, stage) for stage in range(len(shows))])


def gap_shows(life, tour, gap):
    """For each stage what the done, the unbegun and the open dials show."""
    lots = gap_dials(life[0], tour, gap)
    rows = [life[1][moment][0] for moment in first_moments(life)]
    return [[tuple([row[dial] for dial in lot]) for lot in lots] for row in rows]


def mark_of(shows, stage):
    """The word of the stage."""
    lower = lower_of_class(shows, stage)
    if not lower:
        return "first"
    if shows[stage][0] not in [shows[other][0] for other in lower]:
        return "new"
    if last_unbegun(shows, lower[-1]) < stage:
        return "gone"
    return "clash"


def lower_of_class(shows, stage):
    """The list of the lower stages that show the same values of the open dials."""
    return [other for other in range(stage) if shows[other][2] == shows[stage][2]]


def last_unbegun(shows, stage):
    """The greatest stage of the class that shows the stage's values of the unbegun dials."""
    return max([other for other, show in enumerate(shows) if show[1:] == shows[stage][1:]])


def clash_at(life, tour, gap):
    """The moments of two watches told by the first clash, or None."""
    need(is_tour(life[0], tour) and tour != (), "tour")
    marks = cut_marks(life, tour, gap)
    if "clash" not in marks:
        return None
    shows = gap_shows(life, tour, gap)
    clash = marks.index("clash")
    lower = lower_of_class(shows, clash)
    least = [other for other in lower if shows[other][0] == shows[clash][0]][0]
    greatest = last_unbegun(shows, lower[-1])
    kept = first_moments(life)
    looks = [gap, len(tour) - gap]
    return (looked_at(looks, kept[least], kept[lower[-1]]), looked_at(looks, kept[clash], kept[greatest]))


def looked_at(looks, ahead, behind):
    """A moment for each look: one for those ahead of the gap, one for those behind it."""
    return (ahead,) * looks[0] + (behind,) * looks[1]


def lets_cut(life, tour, gap, thing):
    """How many stages the life has; InvalidPaper if thing is not the words of cut_marks."""
    marks = cut_marks(life, tour, gap)
    if not is_tuple_of(thing, len(marks)):
        raise InvalidPaper("shape", -1)
    for place, mark in enumerate(marks):
        if mark == "clash" or not is_mark(thing[place], mark):
            raise InvalidPaper("word", place)
    return stages_many(life)


def is_mark(thing, mark):
    """Whether thing is this very word."""
    return isinstance(thing, str) and thing == mark
