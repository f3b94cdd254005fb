"""Holdings of nets on which another net is hung."""

from stoodthen.blocks import blocks_of
from stoodthen.errors import need
from stoodthen.holdkinds import is_holding, need_holding
from stoodthen.kinds import is_below, is_dials
from stoodthen.netchecker import is_net
from stoodthen.nets import hung_on, hung_stage


def hung_holding(net, dials, holding, stage, other, more, held):
    """The triple (net, dials, holding) of the net with the other one, held in more, hung on at stage."""
    need_holding(net, dials, holding)
    need(is_below(stage, net[0]), "stage")
    need(is_net(other), "other")
    need(is_dials(more), "more")
    need(is_holding(other, more, held), "held")
    return hung_whole(net, dials, holding, stage, other, more, held)


def hung_whole(net, dials, holding, stage, other, more, held):
    """As hung_holding, with arguments that are known to be usable."""
    entries = dict(zip(blocks_of(net), holding))
    for lot, (word, told) in zip(blocks_of(other), held):
        there = tuple([hung_stage(net[0], stage, number) for number in lot])
        if word == "dial":
            entries[there] = (word, told + len(dials))
        else:
            entries[there] = (word, tuple([dial + len(dials) for dial in told]))
    whole = hung_on(net, stage, other)
    return (whole, dials + more, tuple([entries[lot] for lot in blocks_of(whole)]))
