"""The lives of nests."""

from stoodthen.errors import TooMany, need
from stoodthen.kinds import is_integer
from stoodthen.lives import life_of
from stoodthen.nestkinds import nest_dials, nest_held
from stoodthen.nestrows import row_at

MOST_STAGES = 400


def life_by(nest, many):
    """The life of the first many stages of the nest's life."""
    need(is_integer(many) and 1 <= many <= MOST_STAGES, "many")
    most = nest_held(nest)
    if many > most:
        raise TooMany(most)
    return life_of(nest_dials(nest), tuple([row_at(nest, stage) for stage in range(many)]))
