"""[77], [82], (G10): slices of nets done one after the other, and the watches that end."""

import random
import unittest

from stoodthen.errors import InvalidEvent
from stoodthen.nets import line_net
from stoodthen.undoruns import stood_lot, undo_reason, undo_run
from tests import plainruns
from tests.heldsamples import BOTH_SHARED, HELD, TIED
from tests.samples import ODD, POINT, RING, ROW, Promises

NO_SLICES = (None, True, 0, "", [], "go", ("pass", 1), (("go",),), ((),), (None,), [("pass", 1)])
RUNS = [(held, plainruns.net_slices(seed, held)) for seed, held in enumerate(HELD)]
RUNS += [(held, plainruns.net_slices(700 + seed, held, 60)) for held in (HELD[7], HELD[11], HELD[13])
         for seed in range(4)]
ORDERS = ((2, 0, 1),)


def asked(net):
    stages = (0, 1, 2, net[0] - 1, net[0], 10 ** 60)
    return (*[(word, stage) for word in ("pass", "begin") for stage in stages], ("end",), ("look", 0, "old"),
            ("look", 2, "new"),
            ("look", 3, "old"), ("halt", 0), ("halt", 1), ("halt", 3), ("go",), ("begin",), None, ())


def again(held, run, many, orders=True):
    """The first many slices of a run done anew; with each number a reader unless it has orders."""
    fresh = plainruns.Net(*held, orders=run.orders if orders else None)
    for piece in run.log[:many]:
        fresh.do(piece)
    return fresh


def first_place(run):
    """Where to begin so that runs are looked at at unlike places."""
    return len(run.log) % 7


class Reasons(Promises):

    def test_behind_slices(self):
        found = {}
        for held, run in RUNS:
            for many in range(first_place(run), len(run.log) + 1, 14):
                behind = again(held, run, many)
                for piece in asked(held[0]):
                    reason = behind.barred(piece)
                    found[reason] = found.get(reason, 0) + 1
                    self.gives(reason, undo_reason, *held, 3, tuple(behind.log), piece)
        self.assertEqual(set(found), {None, "shape", "who", "turning", "tie", "still", "halted"})
        self.assertGreater(min(found.values()), 25)

    def test_any_value(self):
        for thing in (*ODD, ("go",), ("begin",), ("pass",), ("look", 0), ("pass", 1, 1), ("pass", True)):
            self.gives("shape", undo_reason, ROW, (3,), BOTH_SHARED, 1, (), thing)

    def test_which_comes_first(self):
        begun = (("begin", 1),)
        for piece in (("pass", 1), ("begin", 2), ("pass", 9), ("begin", 0)):
            self.gives("turning", undo_reason, ROW, (3,), BOTH_SHARED, 0, begun, piece)
        for piece in (("pass", 2), ("begin", 2), ("pass", 0), ("begin", 3), ("pass", 10 ** 69)):
            self.gives("tie", undo_reason, ROW, (3,), BOTH_SHARED, 0, (), piece)
        self.gives("tie", undo_reason, POINT, (3,), (), 0, (), ("pass", 0))
        self.gives("who", undo_reason, ROW, (3,), BOTH_SHARED, 1, (("halt", 0),), ("look", 1, "old"))
        self.gives("halted", undo_reason, ROW, (3,), BOTH_SHARED, 1, (("halt", 0),), ("look", 0, "old"))
        self.gives("still", undo_reason, ROW, (3,), BOTH_SHARED, 0, (*begun, ("end",)), ("end",))
        self.gives(None, undo_reason, ROW, (3,), BOTH_SHARED, 0, begun, ("end",))
        self.gives(None, undo_reason, ROW, (3,), BOTH_SHARED, 0, (*begun, ("end",)), ("pass", 2))

    def test_refused(self):
        for wrong in (None, True, 0, (), (1,), [3]):
            self.refuses("dials", undo_reason, ROW, wrong, BOTH_SHARED, 1, (), None)
            self.refuses("dials", undo_reason, ROW, wrong, None, None, None, None)
        for wrong in (None, True, 0, (), BOTH_SHARED[:1], (("dial", 0), ("dial", 1))):
            self.refuses("holding", undo_reason, ROW, (3,), wrong, 1, (), None)
            self.refuses("holding", undo_reason, ROW, (3,), wrong, None, None, None)
        for wrong in (None, True, -1, "1", ()):
            self.refuses("many", undo_reason, ROW, (3,), BOTH_SHARED, wrong, (), None)
            self.refuses("many", undo_reason, ROW, (3,), BOTH_SHARED, wrong, None, None)
        for wrong in (*NO_SLICES, (("pass", 2),), (("end",),), (("begin", 1),) * 2, (("look", 1, "old"),),
                      (("halt", 0),) * 2):
            self.refuses("slices", undo_reason, ROW, (3,), BOTH_SHARED, 1, wrong, None)


class Runs(Promises):

    def test_example(self):
        slices = (("begin", 1), ("look", 0, "old"), ("look", 0, "new"), ("look", 0, "old"))
        self.gives(((0, 1, 3, (1, 0, 0), 1),), undo_run, RING, (2, 2, 2), TIED, ORDERS, slices)

    def test_beside_a_plain_run(self):
        rows = 0
        for held, run in RUNS:
            rows += len(run.rows)
            for many in (len(run.log), len(run.log) // 2, 7):
                self.gives(tuple(again(held, run, many).rows), undo_run, *held, run.orders, tuple(run.log[:many]))
        self.assertGreater(rows, 300)

    def test_stages_told_stood(self):
        """[82]: also over weak dials what is told is a stage that stood meanwhile."""
        for held, run in RUNS:
            slices = tuple(run.log)
            for _, begin, end, _, stage in undo_run(*held, run.orders, slices):
                self.assertIn(stage, stood_lot(*held, slices, begin, end))

    def test_orders(self):
        """What is seen stands dial by dial in the view, whatever the sequence of the looks."""
        dials, holding = (3, 4, 2), (("dial", 1), ("dial", 0))
        for order in ((0, 1, 2), (2, 1, 0), (1, 2, 0), (2, 0, 1)):
            slices = (("look", 1, "old"), ("pass", 1), ("look", 1, "old"), ("pass", 2), ("look", 1, "new"))
            moments = {dial: place for place, dial in enumerate(order)}
            view = (int(moments[0] == 2), int(moments[1] > 0), 0)
            run = undo_run(ROW, dials, holding, ((0, 1, 2), order), slices)
            self.assertEqual(run[0][:4], (1, 0, 4, view))

    def test_a_turn_that_lasts(self):
        slices = (("begin", 1), ("look", 0, "new"), ("look", 0, "old"), ("end",), ("look", 0, "old"), ("begin", 0),
                  ("look", 0, "old"), ("look", 0, "new"))
        self.gives(((0, 1, 1, (1,), 1), (0, 2, 2, (0,), 0), (0, 4, 4, (1,), 1), (0, 6, 6, (1,), 1), (0, 7, 7, (0,), 0)),
                   undo_run, ROW, (3,), BOTH_SHARED, ((0,),), slices)
        self.gives((0, 1), stood_lot, ROW, (3,), BOTH_SHARED, slices, 0, 2)
        self.gives((1,), stood_lot, ROW, (3,), BOTH_SHARED, slices, 3, 4)
        self.gives((0, 1), stood_lot, ROW, (3,), BOTH_SHARED, slices, 6, 6)
        self.gives((0, 1), stood_lot, ROW, (3,), BOTH_SHARED, slices, 4, 5)

    def test_the_first_slice_that_is_barred(self):
        rng = random.Random(77)
        found = set()
        for held, run in RUNS:
            for _ in range(6):
                behind = again(held, run, rng.randrange(len(run.log) + 1))
                piece = rng.choice(asked(held[0]))
                reason = behind.barred(piece)
                if reason is not None:
                    found.add(reason)
                    self.fails(InvalidEvent, (piece, reason), undo_run, *held, run.orders, (*behind.log, piece, None))
        self.assertEqual(found, {"shape", "who", "turning", "tie", "still", "halted"})
        thing = ["pass", 1]
        with self.assertRaises(InvalidEvent) as caught:
            undo_run(ROW, (3,), BOTH_SHARED, ((0,),), (("pass", 1), thing))
        self.assertIs(caught.exception.event, thing)

    def test_no_slices_and_one_stage(self):
        self.gives((), undo_run, ROW, (3,), BOTH_SHARED, ((0,),), ())
        self.gives(((0, 0, 1, (0, 0), 0),), undo_run, POINT, (2, 2), (), ((1, 0),),
                   (("look", 0, "new"), ("look", 0, "old")))

    def test_stood(self):
        for held, run in RUNS:
            slices = tuple(run.log)
            for begin in range(0, len(slices), 7):
                for end in range(begin, len(slices), 5):
                    stood = {stage for stages in run.stood[begin:end + 1] for stage in stages}
                    self.gives(tuple(sorted(stood)), stood_lot, *held, slices, begin, end)

    def test_twelve_stages_and_many_readers(self):
        net = line_net(12)
        slices = (*[("pass", stage) for stage in range(1, 12)], ("look", 59, "old"), ("begin", 10), ("look", 0, "new"))
        self.gives(((59, 11, 11, (11,), 11), (0, 13, 13, (10,), 10)), undo_run, net, (12,), (("dial", 0),) * 11,
                   ((0,),) * 60, slices)
        self.gives(tuple(range(1, 12)), stood_lot, net, (12,), (("dial", 0),) * 11, slices, 0, 13)
        self.gives((10, 11), stood_lot, net, (12,), (("dial", 0),) * 11, (*slices, ("halt", 10 ** 60)), 12, 14)

    def test_refused(self):
        for function, more in ((undo_run, (((0,),), ())), (stood_lot, ((), 0, 0))):
            for wrong in (None, True, 0, (), (1,), [3]):
                self.refuses("dials", function, ROW, wrong, BOTH_SHARED, *more)
                self.refuses("dials", function, ROW, wrong, None, *[None for _ in more])
            for wrong in (None, True, 0, (), BOTH_SHARED[:1], (("dial", 0), ("dial", 1))):
                self.refuses("holding", function, ROW, (3,), wrong, *more)
                self.refuses("holding", function, ROW, (3,), wrong, *[None for _ in more])
        for wrong in (None, True, 0, (), ORDERS[0], list(ORDERS), ((0, 1),), ((0, 1, 1),), ((0, 1, 3),),
                      ((0, 1, 2, 0),),
                      (ORDERS[0], None), ((0, True, 2),), ([0, 1, 2],), ((),)):
            self.refuses("orders", undo_run, RING, (2, 2, 2), TIED, wrong, ())
            self.refuses("orders", undo_run, RING, (2, 2, 2), TIED, wrong, None)
        for wrong in (None, True, 0, "", [], [("pass", 1)]):
            self.refuses("slices", undo_run, RING, (2, 2, 2), TIED, ORDERS, wrong)
        for wrong in (*NO_SLICES, (("pass", 2),), (("end",),), (("begin", 1),) * 2, (("halt", 0),) * 2):
            self.refuses("slices", stood_lot, ROW, (3,), BOTH_SHARED, wrong, 0, 0)
            self.refuses("slices", stood_lot, ROW, (3,), BOTH_SHARED, wrong, None, None)
        slices = (("pass", 1), ("pass", 2), ("pass", 1))
        for wrong in (None, True, -1, "0", (), 3):
            self.refuses("begin", stood_lot, ROW, (3,), BOTH_SHARED, slices, wrong, 2)
            self.refuses("begin", stood_lot, ROW, (3,), BOTH_SHARED, slices, wrong, None)
            self.refuses("end", stood_lot, ROW, (3,), BOTH_SHARED, slices, 0, wrong)
        self.refuses("end", stood_lot, ROW, (3,), BOTH_SHARED, slices, 2, 1)
        self.refuses("begin", stood_lot, ROW, (3,), BOTH_SHARED, (), 0, 0)


if __name__ == "__main__":
    unittest.main()
