"""Nests that grow, and nets on which another net is hung: what becomes of views, stages and holdings."""

from stoodthen.blocks import blocks_of
from stoodthen.errors import need
from stoodthen.holdkinds import is_holding, need_holding
from stoodthen.kinds import is_below, is_dials, is_number, is_size, is_stages, is_view
from stoodthen.nestkinds import nest_dials, nest_tour
from stoodthen.netchecker import is_net
from stoodthen.nets import hung_on, hung_stage


def grown_nest(nest, size):
    """The nest with the size ahead of its outer sizes."""
    need(is_size(size), "size")
    outer, inner = nest
    return ((size, *outer), inner)


def is_times(nest, thing):
    """Whether thing is how often the nest may have grown: a nest is left without so many outer sizes."""
    outer, inner = nest
    return is_below(thing, len(outer) + 1 if inner else len(outer))


def old_view(nest, times, view):
    """The view without its first times and its last times looks."""
    need(is_times(nest, times), "times")
    need(is_view(nest_dials(nest), nest_tour(nest), view), "view")
    return view[times:len(view) - times]


def old_gate(size, at, stage):
    """The stage, or at if it hangs on there behind the stages below size."""
    need(is_stages(size), "size")
    need(is_below(at, size), "at")
    need(is_number(stage), "stage")
    return stage if stage < size else at


def hung_holding(net, dials, holding, stage, other, more, held):
    """The triple (net, dials, holding) of the net with the other one, held in more, hung on at stage."""
    need_holding(net, dials, holding)
    need(is_below(stage, net[0]), "stage")
    need(is_net(other), "other")
    need(is_dials(more), "more")
    need(is_holding(other, more, held), "held")
    return hung_whole(net, dials, holding, stage, other, more, held)


def hung_whole(net, dials, holding, stage, other, more, held):
    """As hung_holding, with arguments that are known to be usable."""
    entries = dict(zip(blocks_of(net), holding))
    for lot, (word, told) in zip(blocks_of(other), held):
        there = tuple([hung_stage(net[0], stage, number) for number in lot])
        if word == "dial":
            entries[there] = (word, told + len(dials))
        else:
            entries[there] = (word, tuple([dial + len(dials) for dial in told]))
    whole = hung_on(net, stage, other)
    return (whole, dials + more, tuple([entries[lot] for lot in blocks_of(whole)]))
