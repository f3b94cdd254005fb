"""[9], [65]: holdings and their checker."""

import itertools
import unittest

from stoodthen.blocks import blocks_of
from stoodthen.errors import InvalidPaper
from stoodthen.holdkinds import is_holding, lets_holding
from stoodthen.nets import line_net, ring_net
from tests import plainnets
from tests.samples import BOW, KITE, ODD, PAIR, POINT, RING, ROW, STAR, Promises

DIALS = ((2,), (3,), (2, 2), (2, 3), (4,), (2, 2, 2))
# All tuples of what a holding may have for each block, but for what other blocks take.
CASES = [(net, dials) for net in (POINT, PAIR, ROW, RING) for dials in DIALS]
CASES += [(KITE, (2, 2)), (KITE, (4,)), (KITE, (3, 2)), (STAR, (2, 2)), (STAR, (2, 3, 2)), (KITE, (2, 2, 2, 2))]


def candidates(net, dials):
    return itertools.product(*[plainnets.entries(net, dials, lot) for lot in blocks_of(net)])


def spare(net, dials, holding):
    """What stays unused of each dial, as the document tells."""
    left = []
    for dial, size in enumerate(dials):
        if any(word == "ties" and dial in told for word, told in holding):
            left.append(size - 2)
        else:
            used = sum(len(lot) - 1 for lot, entry in zip(blocks_of(net), holding) if entry == ("dial", dial))
            left.append(size - 1 - used)
    return tuple(left)


class Holdings(Promises):

    def test_example(self):
        self.gives((0, 0, 0, 2), lets_holding, KITE, (2, 2, 2, 4), (("ties", (2, 1, 0)), ("dial", 3)))

    def test_all_candidates(self):
        told = {True: 0, False: 0}
        for net, dials in CASES:
            for thing in candidates(net, dials):
                full = plainnets.is_full(net, dials, thing)
                told[full] += 1
                self.gives(not full, is_holding, net, dials, thing)
                if full:
                    self.assertRaises(InvalidPaper, lets_holding, net, dials, thing)
                else:
                    self.gives(spare(net, dials, thing), lets_holding, net, dials, thing)
        self.assertGreater(min(told.values()), 100)

    def test_net_of_one_stage(self):
        self.gives((1, 4), lets_holding, POINT, (2, 5), ())
        self.gives(True, is_holding, POINT, (2,), ())
        self.rejects("shape", -1, lets_holding, POINT, (2,), (("dial", 0),))

    def test_unused_values(self):
        self.gives((0,), lets_holding, ROW, (3,), (("dial", 0), ("dial", 0)))
        self.gives((2, 1, 10), lets_holding, ROW, (5, 2, 11), (("dial", 0), ("dial", 0)))
        self.gives((0, 5, 2, 11), lets_holding, KITE, (3, 6, 4, 12), (("dial", 0), ("dial", 2)))
        self.gives((2, 1, 0, 11), lets_holding, RING, (4, 3, 2, 12), (("ties", (0, 1, 2)),))

    def test_twelve_stages(self):
        self.gives((0,), lets_holding, line_net(12), (12,), (("dial", 0),) * 11)
        self.gives((0,) * 11, lets_holding, line_net(12), (2,) * 11, tuple(("dial", dial) for dial in range(11)))
        self.gives((0,), lets_holding, ring_net(12), (12,), (("dial", 0),))
        self.gives((0,) * 12, lets_holding, ring_net(12), (2,) * 12, (("ties", tuple(range(12))),))
        self.rejects("full", 0, lets_holding, ring_net(12), (11,), (("dial", 0),))
        ties = tuple(("ties", (10 - dial,)) for dial in range(11))
        self.gives((0,) * 11 + (4,), lets_holding, line_net(12), (2,) * 11 + (5,), ties)


class Refused(Promises):

    def test_shape_of_the_whole(self):
        for thing in ODD:
            if not (isinstance(thing, tuple) and len(thing) == 2):
                self.rejects("shape", -1, lets_holding, ROW, (2, 2), thing)
        good = (("dial", 0), ("dial", 1))
        for thing in (good[:1], (*good, good[0]), list(good), (), "dd"):
            self.rejects("shape", -1, lets_holding, ROW, (2, 2), thing)
        for thing in ODD:
            self.gives(thing == () and isinstance(thing, tuple), is_holding, POINT, (2,), thing)
            self.gives(False, is_holding, RING, (2, 2, 2), thing)

    def test_shape_of_a_block(self):
        for entry in (*[odd for odd in ODD if odd != ("tell", 0)], ("tell", 0), ("dial",), ("dial", 0, 0), ["dial", 0],
                      ("Dial", 0), ("tie", (0,)), (0, "dial"), ("ties",), (("dial",), 0), ("", 0), (None, 0)):
            self.rejects("shape", 0, lets_holding, ROW, (2, 2), (entry, ("dial", 1)))
            self.rejects("shape", 1, lets_holding, ROW, (2, 2), (("dial", 1), entry))
            self.rejects("shape", 0, lets_holding, ROW, (2, 2), (entry, entry))
            self.gives(False, is_holding, ROW, (2, 2), (("dial", 1), entry))

    def test_dials_that_are_none(self):
        for wrong in (None, True, False, -1, 2, 10 ** 69, "0", (), (0,), [0]):
            self.rejects("dial", 0, lets_holding, ROW, (2, 2), (("dial", wrong), ("dial", 1)))
            self.rejects("dial", 1, lets_holding, ROW, (2, 2), (("dial", 1), ("dial", wrong)))
        for wrong in (None, 0, (), (2,), (-1,), (True,), (0, 1), [0], "0", ((0,),)):
            self.rejects("dial", 0, lets_holding, ROW, (2, 2), (("ties", wrong), ("dial", 1)))
            self.rejects("dial", 1, lets_holding, ROW, (2, 2), (("dial", 1), ("ties", wrong)))
        for wrong in ((0, 1), (0, 1, 2, 3), (0, 1, 3), (0, False, 2), (0, 1, -1)):
            self.rejects("dial", 0, lets_holding, RING, (2, 2, 2), (("ties", wrong),))

    def test_dials_told_twice(self):
        for wrong in ((0, 0, 1), (0, 1, 0), (1, 0, 0), (2, 2, 2)):
            self.rejects("twice", 0, lets_holding, RING, (2, 2, 2), (("ties", wrong),))
        for first, second in ((("ties", (1,)), ("ties", (1,))), (("ties", (1,)), ("dial", 1)),
                              (("dial", 1), ("ties", (1,)))):
            self.rejects("twice", 1, lets_holding, ROW, (5, 5), (first, second))
        ties = ("ties", (2, 1, 3))
        for dial in (1, 2, 3):
            self.rejects("twice", 1, lets_holding, KITE, (5, 5, 5, 5), (ties, ("dial", dial)))
            self.rejects("twice", 1, lets_holding, KITE, (5, 5, 5, 5), (ties, ("ties", (dial,))))
        self.rejects("twice", 1, lets_holding, BOW, (5,) * 4, (("dial", 2), ("ties", (0, 1, 2))))
        self.rejects("twice", 1, lets_holding, BOW, (5,) * 4, (("dial", 1), ("ties", (0, 1, 2))))
        self.rejects("twice", 2, lets_holding, STAR, (5, 5, 5), (("ties", (1,)), ("dial", 0), ("dial", 1)))

    def test_dials_that_are_full(self):
        self.rejects("full", 0, lets_holding, RING, (2, 2), (("dial", 0),))
        self.rejects("full", 1, lets_holding, RING, (3, 2), (("dial", 1),))
        self.rejects("full", 0, lets_holding, ROW, (2, 2), (("dial", 0), ("dial", 0)))
        self.rejects("full", 1, lets_holding, ROW, (2, 2), (("dial", 1), ("dial", 1)))
        self.rejects("full", 1, lets_holding, BOW, (3, 2, 2), (("dial", 2), ("dial", 1)))
        self.rejects("full", 0, lets_holding, BOW, (4, 2, 2), (("dial", 0), ("dial", 0)))

    def test_which_comes_first(self):
        bad = (("shape",), ("dial", 9), ("ties", (0,)), ("dial", 1))
        self.rejects("shape", -1, lets_holding, STAR, (2, 2, 2), bad)
        self.rejects("shape", 0, lets_holding, STAR, (2, 2, 2), bad[:3])
        self.rejects("dial", 0, lets_holding, STAR, (2, 2, 2), (("dial", 9), ("shape",), 0))
        self.rejects("twice", 1, lets_holding, STAR, (2, 2, 2), (("dial", 1), ("ties", (1,)), ("dial", 9)))
        self.rejects("dial", 2, lets_holding, STAR, (2, 2, 2), (("dial", 1), ("dial", 1), ("dial", 9)))
        self.rejects("shape", 2, lets_holding, STAR, (2, 2, 2), (("dial", 1), ("dial", 1), 0))
        self.rejects("twice", 2, lets_holding, STAR, (2, 2, 2), (("dial", 1), ("dial", 1), ("ties", (1,))))
        self.rejects("dial", 0, lets_holding, RING, (2, 2), (("ties", (0, 0, 2)),))

    def test_dials_as_a_parameter(self):
        for wrong in (None, True, 0, (), (1,), (2, 0), [2, 2], (True, 2), "22", ((2, 2),)):
            for function in (is_holding, lets_holding):
                self.refuses("dials", function, ROW, wrong, (("dial", 0), ("dial", 1)))
                self.refuses("dials", function, ROW, wrong, None)


if __name__ == "__main__":
    unittest.main()
