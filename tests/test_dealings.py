"""[65], (G9): holdings that are found, and how many by shared blocks alone there are."""

import itertools
import unittest

from stoodthen.blocks import blocks_of
from stoodthen.dealings import dealing_of, deals_many, mixed_of
from stoodthen.holdkinds import is_holding
from stoodthen.nets import hung_on, line_net, ring_net, star_net
from tests import plain, plainnets
from tests.samples import BOW, CHORD, HANDLE, KITE, PAIR, POINT, RING, ROW, SQUARE, STAR, Promises

NETS = (POINT, PAIR, ROW, RING, KITE, SQUARE, STAR, BOW, HANDLE, CHORD, line_net(5), star_net(6))
DIALS = ((2,), (3,), (2, 2), (4,), (3, 2), (2, 4), (2, 2, 2), (3, 3), (2, 5, 2), (2, 2, 2, 2), (3, 2, 4, 2), (7,),
         (3, 3, 3))


def dealt(net, dials):
    """All holdings by shared blocks alone, one after the other."""
    shared = itertools.product([("dial", dial) for dial in range(len(dials))], repeat=len(blocks_of(net)))
    return [holding for holding in shared if not plainnets.is_full(net, dials, holding)]


def counted(weights, sizes):
    """How many dealings there are, weight by weight; dials with the same rooms left are told together."""
    left = {tuple(sorted(size - 1 for size in sizes)): 1}
    for weight in weights:
        fresh = {}
        for rooms, many in left.items():
            for room in set(rooms):
                if room >= weight:
                    behind = list(rooms)
                    behind.remove(room)
                    behind = tuple(sorted([*behind, room - weight]))
                    fresh[behind] = fresh.get(behind, 0) + many * rooms.count(room)
        left = fresh
    return sum(left.values())


# Ten blocks: two-stage ones, and one of three stages; fewer, greater ones.
TEN = (line_net(11), star_net(11), hung_on(RING, 1, line_net(10)),
       hung_on(star_net(6), 0, hung_on(line_net(5), 2, RING)))
GREAT = (hung_on(hung_on(ring_net(4), 3, ring_net(5)), 0, ring_net(5)), hung_on(BOW, 4, hung_on(BOW, 1, RING)))


class Dealings(Promises):

    def test_examples(self):
        self.gives(3, deals_many, ROW, (3, 2))
        self.gives(None, dealing_of, RING, (2, 2, 2))
        self.gives(None, mixed_of, RING, (2, 2))

    def test_what_the_document_says_of_row_and_ring(self):
        self.gives(2, deals_many, ROW, (2, 2))
        self.gives((("dial", 0),), dealing_of, RING, (3,))
        self.assertEqual(mixed_of(RING, (2, 2, 2))[0][0], "ties")

    def test_all_dealings_of_small_nets(self):
        for net in NETS:
            for dials in DIALS:
                found = dealt(net, dials)
                self.gives(len(found), deals_many, net, dials)
                dealing = dealing_of(net, dials)
                if found:
                    self.assertIn(dealing, found)
                else:
                    self.assertIsNone(dealing)

    def test_all_holdings_of_small_nets(self):
        found = {"shared": 0, "tied": 0, "none": 0}
        for net in (POINT, PAIR, ROW, RING, KITE, STAR, SQUARE):
            for dials in DIALS:
                if len(dials) < 5 and len(dials) ** len(net[1]) < 700:
                    holdings = plainnets.holdings(net, dials)
                    mixed = mixed_of(net, dials)
                    if holdings:
                        self.assertIn(mixed, holdings)
                        tied = any(word == "ties" for word, _ in mixed)
                        found["tied" if tied else "shared"] += 1
                    else:
                        self.assertIsNone(mixed)
                        found["none"] += 1
        self.assertGreater(min(found.values()), 3)

    def test_tied_and_shared_side_by_side(self):
        for net, dials, some in ((KITE, (2, 2, 2, 2), True), (KITE, (2, 2, 2), False), (BOW, (2, 2, 3, 2), True),
                                 (BOW, (2, 2, 2, 2, 2), False), (BOW, (2,) * 6, True), (BOW, (3, 3), True),
                                 (BOW, (4, 2, 2), False), (HANDLE, (2, 2, 2, 3), True), (HANDLE, (2, 2, 2, 2), False),
                                 (HANDLE, (2,) * 5, True), (CHORD, (2,) * 4, False), (CHORD, (2,) * 5, True)):
            mixed = mixed_of(net, dials)
            self.assertEqual(mixed is not None, some, (net, dials))
            if some:
                self.gives(True, is_holding, net, dials, mixed)

    def test_ties_take_the_least_dials(self):
        for dials in itertools.permutations((3, 2, 2, 2)):
            self.gives(True, is_holding, BOW, dials, mixed_of(BOW, dials))
        wide = hung_on(ring_net(5), 0, ring_net(4))
        for dials in ((2, 2, 5, 2, 2), (5, 2, 2, 2, 2), (2, 2, 2, 2, 5)):
            self.gives(True, is_holding, wide, dials, mixed_of(wide, dials))
        self.gives(None, mixed_of, wide, (2, 2, 4, 2, 2))
        self.gives(True, is_holding, wide, (2, 2, 4, 2, 2, 2), mixed_of(wide, (2, 2, 4, 2, 2, 2)))

    def test_ten_blocks(self):
        for net in (*TEN, *GREAT):
            weights = [len(lot) - 1 for lot in blocks_of(net)]
            for dials in ((2,) * 10, (11,), (12,), (3,) * 5, (4, 5, 2, 3), (2,) * 24, (12,) * 24, (3, 2) * 12,
                          (2, 3, 4, 5, 6, 7, 8, 9, 10, 11, 12), (6, 6), (2, 2, 10)):
                many = counted(weights, dials)
                self.gives(many, deals_many, net, dials)
                for function in (dealing_of, mixed_of):
                    holding = function(net, dials)
                    if many:
                        self.gives(True, is_holding, net, dials, holding)
                self.assertEqual(dealing_of(net, dials) is None, many == 0)
                if dealing_of(net, dials) is not None:
                    self.assertEqual({word for word, _ in dealing_of(net, dials)}, {"dial"})

    def test_net_of_one_stage(self):
        for dials in DIALS:
            self.gives(1, deals_many, POINT, dials)
            self.gives((), dealing_of, POINT, dials)
            self.gives((), mixed_of, POINT, dials)

    def test_refused(self):
        for wrong in (None, True, 0, (), (1,), (2, 0), [2, 2], (True, 2), "22", ((2, 2),)):
            for function in (dealing_of, deals_many, mixed_of):
                self.refuses("dials", function, ROW, wrong)


if __name__ == "__main__":
    unittest.main()
