"""[9], [10], [18]: nets, their checker, ways in them, and nets hung on."""

import itertools
import unittest

from stoodthen.errors import NotUsable
from stoodthen.netchecker import lets_net
from stoodthen.nets import hung_on, is_tied, line_net, neighbours_of, net_of, ring_net, star_net, way_of
from tests.samples import KITE, ODD, POINT, RING, ROW, Promises, samples


def random_net(rng):
    size = rng.randint(1, 7)
    ties = {(rng.randrange(stage), stage) for stage in range(1, size)}
    for _ in range(rng.randrange(6) if size > 1 else 0):
        ties.add(tuple(sorted(rng.sample(range(size), 2))))
    return (size, tuple(sorted(ties)))


NETS = samples(random_net, 60)


class Checker(Promises):

    def test_nets(self):
        for net in (POINT, ROW, RING, KITE, *NETS):
            self.gives(len(net[1]), lets_net, net)

    def test_limits_do_not_count(self):
        self.gives(1999, lets_net, (2000, tuple((stage, stage + 1) for stage in range(1999))))
        self.gives(276, lets_net, (24, tuple(itertools.combinations(range(24), 2))))

    def test_shape(self):
        for thing in ODD:
            if not (isinstance(thing, tuple) and len(thing) == 2):
                self.rejects("shape", -1, lets_net, thing)
        self.rejects("shape", -1, lets_net, (*RING, ()))
        self.rejects("shape", -1, lets_net, list(RING))

    def test_size_and_ties(self):
        for size in (0, -1, True, None, "3", (3,), []):
            self.rejects("size", -1, lets_net, (size, None))
        for ties in (None, [], [(0, 1)], 0, "", True):
            self.rejects("ties", -1, lets_net, (1, ties))

    def test_each_tie(self):
        good = ((0, 1), (0, 2))
        wrong = [None, (), (1,), (1, 2, 3), [1, 2], (2, 1), (1, 1), (1, 4), (-1, 2), (True, 2), (1, True), (1, None),
                 0, "12", (0, 1), (0, 2)]
        for tie in wrong:
            self.rejects("tie", 2, lets_net, (4, (*good, tie, None)))
        for tie in wrong[:-2]:
            self.rejects("tie", 0, lets_net, (4, (tie, None)))
        self.rejects("tie", 0, lets_net, (1, ((0, 1),)))
        self.rejects("tie", 0, lets_net, (2, ((False, 1),)))

    def test_apart(self):
        self.rejects("apart", 1, lets_net, (2, ()))
        self.rejects("apart", 1, lets_net, (3, ((0, 2),)))
        self.rejects("apart", 2, lets_net, (5, ((0, 1), (2, 3), (2, 4))))
        self.rejects("apart", 3, lets_net, (4, ((0, 1), (0, 2), (1, 2))))
        self.rejects("apart", 1, lets_net, (10 ** 69, ()))
        self.rejects("apart", 2, lets_net, (10 ** 69, ((0, 1), (5, 10 ** 68))))
        self.gives(3, lets_net, (4, ((0, 3), (1, 2), (2, 3))))


class Made(Promises):

    def test_net_of(self):
        self.gives(RING, net_of, 3, (1, 2), (2, 0), (0, 1))
        self.gives(ROW, net_of, 3, (2, 1), (0, 1), (1, 0), (1, 2))
        self.gives(POINT, net_of, 1)
        self.gives((12, tuple((0, stage) for stage in range(1, 12))), net_of, 12, *[(k, 0) for k in range(1, 12)])
        for net in NETS:
            self.gives(net, net_of, net[0], *[tie[::-1] for tie in reversed(net[1])])

    def test_net_of_refuses_ties(self):
        for tie in (None, (), (0,), (0, 1, 2), (1, 1), (0, 3), (-1, 0), (True, 0), (0, True), [0, 1], 0, "01"):
            self.fails(NotUsable, ("ties", 0), net_of, 3, tie)
            self.fails(NotUsable, ("ties", 2), net_of, 3, (0, 1), (1, 0), tie, None)
        for size, ties in ((2, ()), (3, ((0, 1),)), (4, ((0, 1), (2, 3)))):
            self.fails(NotUsable, ("ties", -1), net_of, size, *ties)

    def test_sizes(self):
        for size in (0, -1, 13, True, None, "3", (3,), 10 ** 69):
            self.refuses("size", net_of, size, None)
            self.refuses("size", line_net, size)
            self.refuses("size", star_net, size)
        for size in (0, 1, 2, 13, True, None, "3"):
            self.refuses("size", ring_net, size)

    def test_lines_rings_stars(self):
        self.gives(ROW, line_net, 3)
        self.gives(RING, ring_net, 3)
        self.gives((4, ((0, 1), (0, 3), (1, 2), (2, 3))), ring_net, 4)
        self.gives((4, ((0, 1), (0, 2), (0, 3))), star_net, 4)
        for size in range(1, 13):
            self.gives((size, tuple((stage, stage + 1) for stage in range(size - 1))), line_net, size)
            self.gives((size, tuple((0, stage) for stage in range(1, size))), star_net, size)
            if size > 2:
                self.gives(size, lets_net, ring_net(size))

    def test_hung_on(self):
        self.gives((5, ((0, 1), (1, 2), (1, 3), (1, 4), (3, 4))), hung_on, ROW, 1, RING)
        self.gives((5, ((0, 1), (0, 2), (1, 2), (2, 3), (3, 4))), hung_on, RING, 2, ROW)
        self.gives(KITE, hung_on, KITE, 3, POINT)
        self.gives(KITE, hung_on, POINT, 0, KITE)
        for net, other in zip(NETS, NETS[1:]):
            for stage in range(net[0]):
                whole = hung_on(net, stage, other)
                self.gives(len(net[1]) + len(other[1]), lets_net, whole)
                self.assertEqual(whole[0], net[0] + other[0] - 1)
                number = [stage, *range(net[0], whole[0])]
                self.assertEqual(set(whole[1]), {*net[1], *((number[one], number[two]) for one, two in other[1])})

    def test_hung_on_refuses(self):
        for stage in (3, -1, True, False, None, "0", (0,)):
            self.refuses("stage", hung_on, ROW, stage, None)
        for other in (None, (), (2, ()), (0, ()), [3, ()], (1, []), (3, ((0, 1), (2, 1))), 3, True):
            self.refuses("other", hung_on, ROW, 0, other)


class Ways(Promises):

    def test_neighbours(self):
        self.gives((0, 1, 3), neighbours_of, KITE, 2)
        self.gives((2,), neighbours_of, KITE, 3)
        self.gives((), neighbours_of, POINT, 0)
        for stage in (4, -1, True, False, None, "0", (0,)):
            self.refuses("stage", neighbours_of, KITE, stage)

    def test_tied(self):
        for net in (KITE, *NETS[:20]):
            for here, there in itertools.product(range(net[0]), repeat=2):
                self.gives(tuple(sorted((here, there))) in net[1], is_tied, net, here, there)
        for stage in (4, -1, True, False, None, "0", (0,)):
            for function in (is_tied, way_of):
                self.refuses("here", function, KITE, stage, None)
                self.refuses("there", function, KITE, 0, stage)

    def test_ways(self):
        self.gives((0, 2, 3), way_of, KITE, 0, 3)
        self.gives((1,), way_of, KITE, 1, 1)
        self.gives((0, 1, 2), way_of, ring_net(4), 0, 2)
        self.gives((2, 1, 0), way_of, ring_net(4), 2, 0)
        self.gives(tuple(range(12)), way_of, line_net(12), 0, 11)

    def test_ways_are_the_first_of_the_shortest(self):
        for net in NETS:
            for here, there in itertools.product(range(net[0]), repeat=2):
                for many in range(net[0]):
                    ways = [way for way in itertools.product(range(net[0]), repeat=many + 1)
                            if way[0] == here and way[-1] == there
                            and all(tuple(sorted(pair)) in net[1] for pair in zip(way, way[1:]))] if many < 5 else []
                    if ways:
                        self.gives(min(ways), way_of, net, here, there)
                        break


if __name__ == "__main__":
    unittest.main()
