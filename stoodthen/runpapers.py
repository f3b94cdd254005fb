"""Papers that tell where the told stages of a run of a line stood."""

from stoodthen.errors import InvalidPaper, need
from stoodthen.kinds import is_below, is_number, is_tuple_of
from stoodthen.weakruns import line_behind


def stood_paper(nest, many, slices):
    """For each row the least place, from its begin to its end, behind whose slice its stage stands."""
    need(is_number(many), "many")
    run = line_behind(nest, many, slices)
    stood = run.stood()
    paper = []
    for _, begin, end, _, stage in run.rows():
        paper.append([place for place in range(begin, end + 1) if stage in stood[place]][0])
    return tuple(paper)


def lets_stood(nest, many, slices, thing):
    """How many rows the run has; InvalidPaper if thing does not tell such a place for each."""
    need(is_number(many), "many")
    run = line_behind(nest, many, slices)
    rows = run.rows()
    stood = run.stood()
    if not is_tuple_of(thing, len(rows)):
        raise InvalidPaper("shape", -1)
    for at, (_, begin, end, _, stage) in enumerate(rows):
        if not (is_below(thing[at], end + 1) and thing[at] >= begin):
            raise InvalidPaper("place", at)
        if stage not in stood[thing[at]]:
            raise InvalidPaper("stage", at)
    return len(rows)
