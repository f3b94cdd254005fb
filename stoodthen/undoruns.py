"""Runs of nets: the watches that end, and what stood meanwhile."""

from stoodthen.errors import need
from stoodthen.heldworks import HeldWork
from stoodthen.holdkinds import need_holding
from stoodthen.kinds import is_filled_tuple, is_number, is_order
from stoodthen.runs import Run, need_done, stood_from


def undo_reason(net, dials, holding, many, slices, piece):
    """Why piece, any value, is barred behind the slices, or None."""
    need_holding(net, dials, holding)
    need(is_number(many), "many")
    return net_behind(net, dials, holding, many, slices).barred(piece)


def undo_run(net, dials, holding, orders, slices):
    """A row (who, begin, end, view, stage) for each watch that ends, or InvalidEvent."""
    need_holding(net, dials, holding)
    need(is_orders(dials, orders), "orders")
    need(isinstance(slices, tuple), "slices")
    run = Run(HeldWork(net, dials, holding, orders), len(orders))
    for piece in slices:
        run.put(piece)
    return run.rows()


def stood_lot(net, dials, holding, slices, begin, end):
    """The lot of all stages that stand behind the slices at the places from begin to end."""
    need_holding(net, dials, holding)
    return stood_from(net_behind(net, dials, holding, None, slices), begin, end)


def is_orders(dials, thing):
    """Whether thing is a tuple, not (), of orders of the dials."""
    return is_filled_tuple(thing) and all([is_order(len(dials), order) for order in thing])


def net_behind(net, dials, holding, many, slices):
    """The run of the holding that has done the slices, each of them let; with many None each number is a reader."""
    run = Run(HeldWork(net, dials, holding, None), many)
    need_done(run, slices)
    return run
