"""[81]: runs of nests and of holdings as objects."""

import random
import unittest

from stoodthen.errors import InvalidEvent
from stoodthen.lineruns import line_run, standing
from stoodthen.runclasses import LineRun, UndoRun
from stoodthen.undoruns import undo_run
from tests import plainruns
from tests.heldsamples import BOTH_SHARED, HELD, TIED
from tests.samples import NEST, RING, ROW, WIDE, Promises
from tests.test_lineruns import RUNS
from tests.test_undoruns import RUNS as NET_RUNS

ORDERS = ((2, 0, 1), (0, 1, 2))


def do(run, piece):
    """What the method of the slice returns."""
    word, *rest = piece
    return {"go": run.go, "pass": run.go, "begin": run.begin, "end": run.end, "look": run.look,
            "halt": run.halt}[word](*rest)


class Lines(Promises):

    def test_beside_a_plain_run(self):
        for nest, plain_run in RUNS[::2]:
            run = LineRun(*nest, 3)
            again = plainruns.Line(nest, 3)
            for piece in plain_run.log:
                rows = len(again.rows)
                again.do(piece)
                told = again.rows[-1][4] if len(again.rows) > rows else None
                self.assertEqual(do(run, piece), told)
                self.gives((again.stands()[0], again.stands()[-1]), run.stands)
            self.gives(tuple(plain_run.log), run.log)
            self.gives(tuple(plain_run.rows), run.rows)
            self.gives(line_run(nest, 3, run.log()), run.rows)
            self.gives(standing(nest, run.log()), run.stands)

    def test_without_slices(self):
        run = LineRun((2,), (2,), 0)
        self.gives((), run.log)
        self.gives((), run.rows)
        self.gives((0, 0), run.stands)

    def test_barred(self):
        run = LineRun((), (2,), 1)
        wrong = object()
        for event, reason, method, arguments in (
                (("end",), "still", run.end, ()), (("look", 1, "old"), "who", run.look, (1, "old")),
                (("halt", 1), "who", run.halt, (1,)),
                (("look", 0, "older"), "shape", run.look, (0, "older")),
                (("look", None, "old"), "shape", run.look, (None, "old")),
                (("halt", True), "shape", run.halt, (True,)), (("halt", [0]), "shape", run.halt, ([0],)),
                (("look", -1, []), "shape", run.look, (-1, []))):
            self.fails(InvalidEvent, (event, reason), method, *arguments)
            self.assertEqual((run.log(), run.rows(), run.stands()), ((), (), (0, 0)))
        run.begin()
        for method, event in ((run.go, ("go",)), (run.begin, ("begin",))):
            self.fails(InvalidEvent, (event, "turning"), method)
        run.end()
        for method, event in ((run.go, ("go",)), (run.begin, ("begin",))):
            self.fails(InvalidEvent, (event, "last"), method)
        run.halt(0)
        self.fails(InvalidEvent, (("look", 0, "old"), "halted"), run.look, 0, "old")
        self.fails(InvalidEvent, (("halt", 0), "halted"), run.halt, 0)
        self.gives((("begin",), ("end",), ("halt", 0)), run.log)
        with self.assertRaises(InvalidEvent) as caught:
            run.look(wrong, "old")
        self.assertIs(caught.exception.event[1], wrong)

    def test_a_barred_look_leaves_the_watch_as_it_is(self):
        run = LineRun(*NEST, 2)
        self.assertIsNone(run.look(0, "old"))
        for who, shade in ((0, "x"), (2, "old"), (None, "old")):
            self.assertRaises(InvalidEvent, run.look, who, shade)
        self.assertIsNone(run.look(0, "old"))
        self.assertEqual(run.look(0, "old"), 0)
        self.gives(((0, 0, 2, (0, 0, 0), 0),), run.rows)

    def test_equal(self):
        run = LineRun(*NEST, 1)
        self.assertTrue(run == LineRun(*NEST, 1))
        for other in (LineRun(*NEST, 2), LineRun((2, 2), (), 1), LineRun((), (2, 2), 1), None, (), NEST, 0, True,
                      UndoRun(ROW, (3,), BOTH_SHARED, ((0,),))):
            self.assertFalse(run == other)
            self.assertTrue(run != other)
        other = LineRun(*NEST, 1)
        run.go()
        self.assertFalse(run == other)
        other.begin()
        other.end()
        self.assertFalse(run == other)
        third = LineRun(*NEST, 1)
        third.go()
        self.assertTrue(run == third)

    def test_refused(self):
        for wrong in (None, True, 0, "", [2], (1,), (True,), ((2,),)):
            self.refuses("outer", LineRun, wrong, (2,), 1)
            self.refuses("outer", LineRun, wrong, None, None)
            self.refuses("inner", LineRun, (2,), wrong, 1)
            self.refuses("inner", LineRun, (2,), wrong, None)
        self.refuses("inner", LineRun, (), (), 1)
        for wrong in (None, True, -1, "1", ()):
            self.refuses("many", LineRun, (2,), (), wrong)

    def test_wide(self):
        run = LineRun(WIDE, (), 1)
        run.go()
        run.begin()
        self.assertIsNone(run.look(0, "new"))
        self.gives((1, 2), run.stands)
        run = LineRun((10 ** 60,), (), 1)
        run.go()
        run.begin()
        self.assertEqual([run.look(0, shade) for shade in ("new", "old")], [None, 2])


class Nets(Promises):

    def test_beside_a_plain_run(self):
        for held, plain_run in NET_RUNS[::2]:
            run = UndoRun(*held, plain_run.orders)
            again = plainruns.Net(*held, orders=plain_run.orders)
            for piece in plain_run.log:
                rows = len(again.rows)
                again.do(piece)
                told = again.rows[-1][4] if len(again.rows) > rows else None
                self.assertEqual(do(run, piece), told)
                self.gives(again.stands(), run.stands)
            self.gives(tuple(plain_run.log), run.log)
            self.gives(tuple(plain_run.rows), run.rows)
            self.gives(undo_run(*held, plain_run.orders, run.log()), run.rows)

    def test_without_slices(self):
        run = UndoRun(RING, (2, 2, 2), TIED, ORDERS)
        self.gives((), run.log)
        self.gives((), run.rows)
        self.gives((0,), run.stands)

    def test_stands_is_a_lot(self):
        run = UndoRun(RING, (2, 2, 2), TIED, ORDERS)
        run.go(2)
        self.gives((2,), run.stands)
        run.begin(1)
        self.gives((1, 2), run.stands)
        self.gives((("pass", 2), ("begin", 1)), run.log)

    def test_barred(self):
        run = UndoRun(ROW, (3,), BOTH_SHARED, ((0,),))
        for event, reason, method, arguments in (
                (("pass", 2), "tie", run.go, (2,)), (("begin", 0), "tie", run.begin, (0,)),
                (("pass", None), "shape", run.go, (None,)),
                (("begin", True), "shape", run.begin, (True,)), (("end",), "still", run.end, ()),
                (("halt", 1), "who", run.halt, (1,)),
                (("look", 1, "new"), "who", run.look, (1, "new")), (("look", 0, 0), "shape", run.look, (0, 0))):
            self.fails(InvalidEvent, (event, reason), method, *arguments)
            self.assertEqual((run.log(), run.rows(), run.stands()), ((), (), (0,)))
        run.begin(1)
        self.fails(InvalidEvent, (("pass", 9), "turning"), run.go, 9)
        self.fails(InvalidEvent, (("begin", 1), "turning"), run.begin, 1)
        run.halt(0)
        self.fails(InvalidEvent, (("look", 0, "old"), "halted"), run.look, 0, "old")

    def test_equal(self):
        made = (RING, (2, 2, 2), TIED, ORDERS)
        run = UndoRun(*made)
        self.assertTrue(run == UndoRun(*made))
        for other in (UndoRun(RING, (2, 2, 2), TIED, ORDERS[:1]),
                      UndoRun(RING, (2, 2, 2), (("ties", (0, 2, 1)),), ORDERS),
                      UndoRun(RING, (2, 3, 2), TIED, ORDERS), UndoRun(ROW, (3,), BOTH_SHARED, ((0,),)), None, made, 0,
                      LineRun(*NEST, 2)):
            self.assertFalse(run == other)
            self.assertTrue(run != other)
        other = UndoRun(*made)
        run.go(1)
        self.assertFalse(run == other)
        other.go(1)
        self.assertTrue(run == other)
        run.look(0, "old")
        other.look(0, "new")
        self.assertFalse(run == other)

    def test_refused(self):
        for wrong in (None, True, 0, (), (3,), (3, ((0, 1),))):
            self.refuses("net", UndoRun, wrong, (3,), BOTH_SHARED, ((0,),))
            self.refuses("net", UndoRun, wrong, None, None, None)
        for wrong in (None, True, 0, (), (1,), [3]):
            self.refuses("dials", UndoRun, ROW, wrong, BOTH_SHARED, ((0,),))
            self.refuses("dials", UndoRun, ROW, wrong, None, None)
        for wrong in (None, True, 0, (), BOTH_SHARED[:1]):
            self.refuses("holding", UndoRun, ROW, (3,), wrong, ((0,),))
            self.refuses("holding", UndoRun, ROW, (3,), wrong, None)
        for wrong in (None, True, 0, (), (0,), [(0,)], ((0, 0),), ((1,),), ((True,),), ((),)):
            self.refuses("orders", UndoRun, ROW, (3,), BOTH_SHARED, wrong)

    def test_results_belong_to_the_caller(self):
        rng = random.Random(81)
        run = UndoRun(*HELD[11], ORDERS)
        for _ in range(12):
            run.look(rng.randrange(2), "old")
        before = (run.log(), run.rows())
        run.look(0, "old")
        self.assertEqual((run.log()[:-1], run.rows()[:len(before[1])]), before)


if __name__ == "__main__":
    unittest.main()
