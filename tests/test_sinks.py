"""[9], [68], (G10): told gates, their sinks, and what rows tell."""

import itertools
import unittest

from stoodthen.blocks import blocks_of
from stoodthen.errors import Unseen
from stoodthen.nets import line_net, ring_net, star_net
from stoodthen.sinks import held_told, sink_of, sinks_of, told_gates
from tests import plain, plainnets
from tests.heldsamples import HELD, TIED
from tests.samples import BOW, CHORD, HANDLE, KITE, PAIR, POINT, RING, ROW, SQUARE, STAR, Promises
from tests.test_blocks import NETS


class Sinks(Promises):

    def test_example(self):
        self.gives((0, 2), sinks_of, ROW, (0, 2))
        self.gives(0, sink_of, ROW, (0, 2))

    def test_all_told_gates_have_a_sink(self):
        several = 0
        for net in NETS[::2]:
            told = list(itertools.product(*blocks_of(net)))
            for gates in told[::1 + len(told) // 40]:
                sinks = plainnets.sinks(net, gates)
                self.assertTrue(sinks)
                several += len(sinks) > 1
                self.gives(sinks, sinks_of, net, gates)
                self.gives(sinks[0], sink_of, net, gates)
        self.assertGreater(several, 100)

    def test_the_gates_of_a_stage_have_it_alone(self):
        for net in NETS:
            blocks = blocks_of(net)
            if net[0] <= 5:
                for stage in range(net[0]):
                    gates = tuple(plainnets.gate(net, lot, stage) for lot in blocks)
                    self.gives((stage,), sinks_of, net, gates)

    def test_one_stage_and_twelve(self):
        self.gives((0,), sinks_of, POINT, ())
        self.gives(0, sink_of, POINT, ())
        self.gives((11,), sinks_of, line_net(12), tuple(range(1, 12)))
        self.gives((0, 2, 11), sinks_of, line_net(12), (0, 2, 2, *range(4, 12)))
        self.gives((5,), sinks_of, ring_net(12), (5,))
        self.gives((1, 3), sinks_of, star_net(5), (1, 0, 3, 0))

    def test_refused(self):
        for function in (sinks_of, sink_of):
            for wrong in (None, True, 0, (), (0,), (0, 1, 2), (2, 2), (0, 0), (-1, 1), (False, 1), (0, True), [0, 1],
                          "01",
                          (None, 1), ((0,), 1), (3, 1), (0, 10 ** 69)):
                self.refuses("gates", function, ROW, wrong)
            for wrong in (None, True, 0, (0,), [], "", ((),)):
                self.refuses("gates", function, POINT, wrong)


class Told(Promises):

    def test_example(self):
        self.gives((0,), told_gates, RING, (2, 2, 2), TIED, (1, 1, 1))
        self.gives(0, held_told, RING, (2, 2, 2), TIED, (1, 1, 1))

    def test_all_rows(self):
        told = {"seen": 0, "unseen": 0}
        for net, dials, holding in HELD:
            for row in plainnets.all_rows(dials):
                unseen = plainnets.unseen_dial(net, dials, holding, row)
                if unseen is None:
                    told["seen"] += 1
                    gates = plainnets.told_gates(net, dials, holding, row)
                    self.gives(gates, told_gates, net, dials, holding, row)
                    self.gives(plainnets.sinks(net, gates)[0], held_told, net, dials, holding, row)
                else:
                    told["unseen"] += 1
                    self.fails(Unseen, (unseen,), told_gates, net, dials, holding, row)
                    self.fails(Unseen, (unseen,), held_told, net, dials, holding, row)
        self.assertGreater(min(told.values()), 60)

    def test_rows_of_the_work(self):
        for net, dials, holding in HELD:
            for stage, row in plainnets.work(net, dials, holding):
                gates = tuple(plainnets.gate(net, lot, stage) for lot in plain.blocks_of(net))
                self.gives(gates, told_gates, net, dials, holding, row)
                self.gives(stage, held_told, net, dials, holding, row)

    def test_a_dial_told_for_nothing(self):
        for value in range(5):
            self.gives((1, 1), told_gates, ROW, (5, 3), (("dial", 1), ("dial", 1)), (value, 1))
            self.gives((), told_gates, POINT, (5,), (), (value,))
            self.gives(0, held_told, POINT, (5,), (), (value,))

    def test_the_least_dial_that_shows_too_much(self):
        holding = (("ties", (2, 1, 0)), ("dial", 3))
        for row, place in (((2, 2, 2, 2), 0), ((1, 2, 2, 3), 1), ((1, 0, 2, 3), 2), ((1, 0, 1, 2), 3)):
            self.fails(Unseen, (place,), told_gates, KITE, (3, 3, 3, 4), holding, row)
        # The second block's dial comes before the first one's.
        shared = (("dial", 1), ("dial", 0))
        self.fails(Unseen, (0,), told_gates, ROW, (3, 3), shared, (2, 2))
        self.fails(Unseen, (1,), told_gates, ROW, (3, 3), shared, (1, 2))

    def test_twelve_stages(self):
        self.gives(tuple(range(1, 12)), told_gates, line_net(12), (12,), (("dial", 0),) * 11, (11,))
        self.gives(11, held_told, line_net(12), (12,), (("dial", 0),) * 11, (11,))
        self.gives(7, held_told, ring_net(12), (2,) * 24, (("ties", tuple(range(23, 11, -1))),),
                   (0,) * 16 + (1,) * 6 + (0, 1))
        self.gives((7,), told_gates, ring_net(12), (2,) * 12, (("ties", tuple(range(12))),),
                   (1, 0, *(1,) * 6, *(0,) * 4))

    def test_refused(self):
        row = (1, 0, 0)
        for function in (told_gates, held_told):
            for wrong in (None, True, 0, (), (1, 2, 2), [2, 2, 2], "222"):
                self.refuses("dials", function, RING, wrong, TIED, row)
                self.refuses("dials", function, RING, wrong, None, None)
            for wrong in (None, True, 0, (), TIED[0], list(TIED), (("ties", (0, 1)),), (("ties", (0, 1, 1)),),
                          (("ties", (0, 1, 3)),), (("dial", 0),), TIED * 2):
                self.refuses("holding", function, RING, (2, 2, 2), wrong, row)
                self.refuses("holding", function, RING, (2, 2, 2), wrong, None)
            for wrong in (None, True, 0, (), (0, 0), (0, 0, 0, 0), (0, 0, 2), (0, 0, -1), (0, 0, True), [0, 0, 0],
                          "000"):
                self.refuses("row", function, RING, (2, 2, 2), TIED, wrong)


class Watched(Promises):

    def test_each_sink_was_met(self):
        """Told gates that were the gates of the work at some moments: each sink was met meanwhile."""
        for net in (PAIR, ROW, RING, KITE, STAR, SQUARE, CHORD, HANDLE, BOW):
            blocks = plain.blocks_of(net)
            tables = [plainnets.gates(net, lot) for lot in blocks]
            walks = [(stage,) for stage in range(net[0])]
            for _ in range(3):
                walks += [(*walk, stage) for walk in walks for stage in range(net[0])
                          if plainnets.tied(net, walk[-1], stage)]
                walks = sorted(set(walks))[::2 if len(walks) > 60 else 1]
            for walk in walks:
                for gates in itertools.product(*[sorted({table[stage] for stage in walk}) for table in tables]):
                    self.assertTrue(set(sinks_of(net, gates)) <= set(walk))


if __name__ == "__main__":
    unittest.main()
