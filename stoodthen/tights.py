"""Codes of nets in dials whose sizes are used just up."""

from math import factorial

from stoodthen.blocks import blocks_of
from stoodthen.dealings import deals_many, weights_of
from stoodthen.errors import need
from stoodthen.handed import parting_dials
from stoodthen.holdkinds import shared_lots
from stoodthen.kinds import is_below, is_dials, is_names, is_tuple_of
from stoodthen.regions import region_numbers, regions_by


def need_tight(net, dials):
    """Refuse what are no dials, or dials whose sizes less 1 each do not have the net's size less 1 as their sum."""
    need(is_dials(dials) and sum(dials) - len(dials) == net[0] - 1, "dials")


def tight_many(net, dials):
    """How many codes of the net in the dials can be read."""
    need_tight(net, dials)
    many = deals_many(net, dials)
    for size in dials:
        many *= factorial(size)
    return many


def tight_code(net, dials, dealing, names):
    """The code in which each dial tells the regions by its blocks, under its names."""
    need_tight(net, dials)
    need(is_dealing(net, dials, dealing), "dealing")
    need(is_names(dials, names), "names")
    numbers = [region_numbers(net, lots) for lots in lots_dealt(net, dials, dealing)]
    return tuple([tuple([called[told[stage]] for called, told in zip(names, numbers)]) for stage in range(net[0])])


def is_dealing(net, dials, thing):
    """Whether thing has a dial for each block, so that each size is used just up."""
    weights = weights_of(blocks_of(net))
    if not (is_tuple_of(thing, len(weights)) and all([is_below(dial, len(dials)) for dial in thing])):
        return False
    used = [sum([weight for weight, told in zip(weights, thing) if told == dial]) for dial in range(len(dials))]
    return used == [size - 1 for size in dials]


def lots_dealt(net, dials, dealing):
    """For each dial the list of its blocks."""
    return shared_lots(net, dials, [("dial", dial) for dial in dealing])


def tight_parts(net, dials, rows):
    """The pair (dealing, names) from which tight_code makes the code rows."""
    need_tight(net, dials)
    parting = parting_dials(net, dials, rows)
    need(() not in parting, "rows")
    # Each dial has a value of its own for each region by the blocks that it parts, so that no
    # block is left to be parted by two.
    dealing = tuple([lot[0] for lot in parting])
    names = []
    for dial, lots in enumerate(lots_dealt(net, dials, dealing)):
        names.append(tuple([rows[region[0]][dial] for region in regions_by(net, lots)]))
    return (dealing, tuple(names))
