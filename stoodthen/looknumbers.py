"""How many stages can be held by how many looks, and by which choice of dials."""

from stoodthen.errors import need
from stoodthen.kinds import is_number, is_stages
from stoodthen.orders import best_way
from stoodthen.rowtools import rows_many
from stoodthen.spotmasks import places_in


def most_held(dials, looks):
    """The most stages that a choice with at most so many looks holds."""
    need(is_number(looks), "looks")
    return best_choice(dials, looks)[0]


def best_tour(dials, looks):
    """A choice (outer, inner) with at most so many looks that holds the most."""
    need(is_number(looks), "looks")
    return best_choice(dials, looks)[1]


def best_choice(dials, looks):
    """The pair of the most that is held and a choice that holds it."""
    lots = [places_in(lot) for lot in range(1 << len(dials))]
    return max([choice_around(dials, lot, looks) for lot in lots if len(lot) <= looks])


def choice_around(dials, lot, looks):
    """The best choice with this lot as its inner dials: what it holds, and itself."""
    # The sequence of outer dials changes nothing: the greatest of the others are taken.
    others = sorted([(-size, dial) for dial, size in enumerate(dials) if dial not in lot])
    outer = tuple([dial for _, dial in others[:(looks - len(lot)) // 2]])
    cut, order = best_way([dials[dial] for dial in lot])
    held = cut * rows_many([dials[dial] for dial in outer])
    return (held, (outer, tuple([lot[place] for place in order])))


def fewest_looks(dials, stages):
    """The least looks by which so many stages can be held, or None."""
    need(is_stages(stages), "stages")
    if stages > rows_many(dials):
        return None
    looks = 0
    while most_held(dials, looks) < stages:
        looks += 1
    return looks


def looks_for_all(dials):
    """The looks from which on all rows can be used."""
    return 2 * len(dials) - 1


def to_and_fro(dials):
    """The tour from dial 0 on to the last one, and back."""
    many = len(dials)
    return tuple(range(many)) + tuple(reversed(range(many - 1)))
