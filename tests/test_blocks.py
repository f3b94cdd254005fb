"""[9], [63]: the blocks of nets, their ties, and the hinges."""

import itertools
import random
import unittest

from stoodthen.blocks import block_ties, blocks_at, blocks_of, hinges_of
from stoodthen.netchecker import is_net
from stoodthen.nets import hung_on, line_net, ring_net, star_net
from tests import plain
from tests.samples import KITE, POINT, RING, ROW, Promises

NO_NUMBERS = (None, True, False, -1, -(10 ** 69), "1", (), (1,), [1])


def all_nets(size):
    pairs = list(itertools.combinations(range(size), 2))
    nets = [(size, ties) for many in range(len(pairs) + 1) for ties in itertools.combinations(pairs, many)]
    return [net for net in nets if is_net(net)]


def random_net(rng, size, more):
    pairs = {(rng.randrange(stage), stage) for stage in range(1, size)}
    pairs |= {tuple(sorted(rng.sample(range(size), 2))) for _ in range(more)}
    return (size, tuple(sorted(pairs)))


RNG = random.Random(63)
NETS = [net for size in range(1, 5) for net in all_nets(size)] + all_nets(5)[::9]
NETS += [random_net(RNG, RNG.randint(5, 8), RNG.randrange(6)) for _ in range(60)]
FULL = (7, tuple(itertools.combinations(range(7), 2)))


class Blocks(Promises):

    def test_examples(self):
        self.gives(((0, 1, 2), (2, 3)), blocks_of, KITE)
        self.gives((2,), hinges_of, KITE)

    def test_by_taking_stages_out(self):
        for net in NETS:
            blocks = plain.blocks_of(net)
            self.gives(blocks, blocks_of, net)
            for stage in range(net[0]):
                places = tuple(place for place, block in enumerate(blocks) if stage in block)
                self.gives(places, blocks_at, net, stage)
            self.gives(tuple(stage for stage in range(net[0]) if sum(stage in block for block in blocks) > 1),
                       hinges_of, net)
            told = []
            for place, block in enumerate(blocks):
                ties = tuple(tie for tie in net[1] if set(tie) <= set(block))
                self.gives(ties, block_ties, net, place)
                told += ties
            self.assertEqual(sorted(told), list(net[1]))
            self.assertEqual(sum(len(block) - 1 for block in blocks), net[0] - 1)

    def test_hinges_by_taking_stages_out(self):
        for net in NETS:
            for stage in range(net[0]):
                others = tuple(other for other in range(net[0]) if other != stage)
                self.assertEqual(stage in hinges_of(net), not plain.hangs(net, others))

    def test_one_stage(self):
        self.gives((), blocks_of, POINT)
        self.gives((), hinges_of, POINT)
        self.gives((), blocks_at, POINT, 0)
        self.refuses("block", block_ties, POINT, 0)

    def test_twelve_stages(self):
        self.gives(tuple((stage, stage + 1) for stage in range(11)), blocks_of, line_net(12))
        self.gives(tuple(range(1, 11)), hinges_of, line_net(12))
        self.gives((tuple(range(12)),), blocks_of, ring_net(12))
        self.gives((), hinges_of, ring_net(12))
        self.gives(ring_net(12)[1], block_ties, ring_net(12), 0)
        self.gives(tuple((0, stage) for stage in range(1, 12)), blocks_of, star_net(12))
        self.gives((0,), hinges_of, star_net(12))
        self.gives(tuple(range(11)), blocks_at, star_net(12), 0)
        self.gives((tuple(range(7)),), blocks_of, FULL)
        rings = hung_on(hung_on(ring_net(4), 3, ring_net(5)), 0, ring_net(5))
        self.assertEqual(rings[0], 12)
        self.gives(((0, 1, 2, 3), (0, 8, 9, 10, 11), (3, 4, 5, 6, 7)), blocks_of, rings)
        self.gives((0, 3), hinges_of, rings)
        self.gives((0, 1), blocks_at, rings, 0)
        self.gives(((0, 8), (0, 11), (8, 9), (9, 10), (10, 11)), block_ties, rings, 1)

    def test_two_rings_with_two_stages_in_common(self):
        net = (5, ((0, 1), (0, 2), (1, 2), (1, 3), (2, 3), (3, 4)))
        self.gives(((0, 1, 2, 3), (3, 4)), blocks_of, net)
        self.gives(((0, 1), (0, 2), (1, 2), (1, 3), (2, 3)), block_ties, net, 0)
        self.gives(((0, 1), (1, 2)), blocks_of, ROW)
        self.gives(((0, 1, 2),), blocks_of, RING)

    def test_refused(self):
        for wrong in (*NO_NUMBERS, 2, 10 ** 69):
            self.refuses("block", block_ties, KITE, wrong)
        for wrong in (*NO_NUMBERS, 4, 10 ** 69):
            self.refuses("stage", blocks_at, KITE, wrong)


if __name__ == "__main__":
    unittest.main()
