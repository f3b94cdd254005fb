"""Claims about works: whether they hold, and how they are written and read."""

from stoodthen.deskevents import is_name
from stoodthen.deskworks import held_of, row_of, stage_of
from stoodthen.errors import need
from stoodthen.fieldreaders import Fields, line_of
from stoodthen.kinds import is_filled_tuple, is_number, is_tuple_of
from stoodthen.reasons import is_works

TELLING = ("at", "row", "room")
# Of these words at most four stand within one another.
JOINING = ("not", "both", "either")
MOST_WITHIN = 4


def is_claim(thing):
    """Whether thing is a claim."""
    return is_claim_within(thing, MOST_WITHIN)


def is_claim_within(thing, most):
    """Whether thing is a claim in which at most so many joining words stand within one another."""
    if is_tuple_of(thing, 3) and thing[0] in TELLING:
        return is_name(thing[1]) and is_claimed(thing[0], thing[2])
    if is_tuple_of(thing, 2):
        joined = thing[0] == "not"
    else:
        joined = is_tuple_of(thing, 3) and thing[0] in ("both", "either")
    return joined and most > 0 and all([is_claim_within(part, most - 1) for part in thing[1:]])


def is_claimed(word, thing):
    """Whether a claim with this word may have thing behind its name."""
    if word == "row":
        return is_filled_tuple(thing) and all([is_number(value) for value in thing])
    return is_number(thing)


def claim_holds(works, claim):
    """Whether the claim holds of the works."""
    need(is_works(works), "works")
    need(is_claim(claim), "claim")
    return holds_of(dict(works), claim)


def holds_of(named, claim):
    """Whether the claim holds of the works in a dict by their names."""
    word = claim[0]
    if word == "not":
        return not holds_of(named, claim[1])
    if word == "both":
        return holds_of(named, claim[1]) and holds_of(named, claim[2])
    if word == "either":
        return holds_of(named, claim[1]) or holds_of(named, claim[2])
    work = named.get(claim[1])
    if work is None:
        return False
    if word == "at":
        return stage_of(work) == claim[2]
    if word == "row":
        return row_of(work) == claim[2]
    return work[0] == "line" and stage_of(work) + claim[2] < held_of(work)


def claim_line(claim):
    """The elements of the claim in sequence, parted by single spaces."""
    need(is_claim(claim), "claim")
    return line_of(claim)


def read_claim(text):
    """The claim of such a line."""
    need(isinstance(text, str), "text")
    fields = Fields(0, text)
    claim = claim_from(fields, MOST_WITHIN)
    fields.need_end()
    return claim


def claim_from(fields, most):
    """The claim that the next fields tell, with at most so many joining words within one another."""
    word = fields.take_word(TELLING + JOINING if most > 0 else TELLING)
    if word == "not":
        return (word, claim_from(fields, most - 1))
    if word in JOINING:
        one = claim_from(fields, most - 1)
        return (word, one, claim_from(fields, most - 1))
    name = fields.take_name()
    return (word, name, fields.take_numbers() if word == "row" else fields.take_number())
