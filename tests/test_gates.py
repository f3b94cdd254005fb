"""[9], [64]: the gates of stages in blocks, and regions by blocks."""

import itertools
import unittest

from stoodthen.blocks import blocks_of
from stoodthen.gates import behind, gate_of, gates_of
from stoodthen.nets import hung_on, line_net, ring_net, star_net
from stoodthen.regions import region_of, regions_of
from tests import plainnets
from tests.plain import lots
from tests.samples import KITE, POINT, RING, ROW, Promises
from tests.test_blocks import NETS, NO_NUMBERS

SMALL = [net for net in NETS if net[0] < 5] + [net for net in NETS if 5 <= net[0] <= 6][::3]


class Gates(Promises):

    def test_examples(self):
        self.gives((2, 3), gates_of, KITE, 3)
        self.gives((2, 3), behind, KITE, 0, 2)

    def test_by_ways_that_leave_the_block(self):
        for net in SMALL:
            blocks = blocks_of(net)
            gates = [plainnets.gates(net, lot) for lot in blocks]
            for place, lot in enumerate(blocks):
                for stage in range(net[0]):
                    self.gives(gates[place][stage], gate_of, net, place, stage)
                for gate in lot:
                    stages = tuple(stage for stage in range(net[0]) if gates[place][stage] == gate)
                    self.gives(stages, behind, net, place, gate)
            for stage in range(net[0]):
                self.gives(tuple(at[stage] for at in gates), gates_of, net, stage)

    def test_one_stage_and_no_blocks(self):
        self.gives((), gates_of, POINT, 0)
        self.refuses("block", gate_of, POINT, 0, 0)
        self.refuses("block", behind, POINT, 0, 0)

    def test_twelve_stages(self):
        line = line_net(12)
        self.gives((1, 2, 3, 4, 5, 6, 6, 7, 8, 9, 10), gates_of, line, 6)
        self.gives((0, 1, 2, 3), behind, line, 3, 3)
        self.gives(tuple(range(4, 12)), behind, line, 3, 4)
        self.gives((7,), gates_of, ring_net(12), 7)
        self.gives((0, *(0,) * 10), gates_of, star_net(12), 0)
        self.gives((0, 0, 3, *(0,) * 8), gates_of, star_net(12), 3)
        rings = hung_on(hung_on(ring_net(4), 3, ring_net(5)), 0, ring_net(5))
        self.gives((3, 0, 5), gates_of, rings, 5)
        self.gives((0, 8, 9, 10, 11), behind, rings, 0, 0)
        self.gives((0, 1, 2, 3, 4, 5, 6, 7), behind, rings, 1, 0)

    def test_refused(self):
        for wrong in (*NO_NUMBERS, 2, 10 ** 69):
            self.refuses("block", gate_of, KITE, wrong, 0)
            self.refuses("block", gate_of, KITE, wrong, None)
            self.refuses("block", behind, KITE, wrong, None)
        for wrong in (*NO_NUMBERS, 4, 10 ** 69):
            self.refuses("stage", gate_of, KITE, 0, wrong)
            self.refuses("stage", gates_of, KITE, wrong)
            self.refuses("gate", behind, KITE, 0, wrong)
        for wrong in (3, 4):
            self.refuses("gate", behind, KITE, 0, wrong)
        for wrong in (0, 1, True):
            self.refuses("gate", behind, KITE, 1, wrong)


class Regions(Promises):

    def test_examples(self):
        self.gives(((0, 1, 2), (3,)), regions_of, KITE, (1,))
        self.gives(3, region_of, KITE, (0, 1), 3)

    def test_by_taking_ties_out(self):
        for net in SMALL:
            blocks = blocks_of(net)
            for places in lots(range(len(blocks))):
                taken = tuple(blocks[place] for place in places)
                regions = plainnets.regions(net, taken)
                self.gives(regions, regions_of, net, places)
                self.assertEqual(len(regions), 1 + sum(len(lot) - 1 for lot in taken))
                for number, region in enumerate(regions):
                    for stage in region:
                        self.gives(number, region_of, net, places, stage)

    def test_by_no_blocks_and_by_all(self):
        for net in NETS:
            self.gives((tuple(range(net[0])),), regions_of, net, ())
            everything = tuple(range(len(blocks_of(net))))
            self.gives(tuple((stage,) for stage in range(net[0])), regions_of, net, everything)
        self.gives(((0,),), regions_of, POINT, ())
        self.gives(0, region_of, POINT, (), 0)

    def test_numbers_go_by_the_least_stage(self):
        net = (5, ((0, 3), (0, 4), (1, 3), (2, 4)))
        self.gives(((0, 2, 3, 4), (1,)), regions_of, net, (2,))
        self.gives(((0, 2, 4), (1, 3)), regions_of, net, (0,))
        self.gives(((0, 1, 3), (2, 4)), regions_of, net, (1,))
        self.gives(1, region_of, net, (1,), 4)
        self.gives(0, region_of, net, (1,), 3)

    def test_twelve_stages(self):
        line = line_net(12)
        self.gives(((0, 1, 2, 3), (4, 5, 6, 7, 8), (9, 10, 11)), regions_of, line, (3, 8))
        self.gives(2, region_of, line, (3, 8), 11)
        self.gives(((0, *range(2, 12)), (1,)), regions_of, star_net(12), (0,))

    def test_refused(self):
        for wrong in (*[value for value in NO_NUMBERS if value not in ((), (1,))], 0, (2,), (0, 2), (1, 0), (0, 0),
                      (False,), (0, True), [0], (-1, 0), ((0,),), "0"):
            self.refuses("places", regions_of, KITE, wrong)
            self.refuses("places", region_of, KITE, wrong, 0)
            self.refuses("places", region_of, KITE, wrong, None)
        for wrong in (*NO_NUMBERS, 4, 10 ** 69):
            self.refuses("stage", region_of, KITE, (0,), wrong)

    def test_gates_are_told_by_regions(self):
        for net in SMALL[::4]:
            blocks = blocks_of(net)
            for places in lots(range(len(blocks))):
                for one, other in itertools.combinations(range(net[0]), 2):
                    alike = region_of(net, places, one) == region_of(net, places, other)
                    gates = [gates_of(net, one)[place] == gates_of(net, other)[place] for place in places]
                    self.assertEqual(alike, all(gates))
        self.assertEqual(gates_of(RING, 2), (2,))
        self.assertEqual(gates_of(ROW, 2), (1, 2))


if __name__ == "__main__":
    unittest.main()
