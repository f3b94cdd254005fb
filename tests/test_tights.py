"""[69], (G11), [71]: codes in dials that are used just up."""

import itertools
import math
import unittest

from stoodthen.handed import bare_block, is_trim
from stoodthen.machines import machine_by
from stoodthen.nets import hung_on, line_net, ring_net, star_net
from stoodthen.readables import is_readable
from stoodthen.tights import tight_code, tight_many, tight_parts
from tests import plain, plainnets
from tests.samples import BOW, CHORD, HANDLE, KITE, PAIR, POINT, RING, ROW, SQUARE, STAR, Promises

# Nets and dials just used up, of which all codes are gone through.
LEAST = [(PAIR, (2,)), (ROW, (2, 2)), (ROW, (3,)), (RING, (2, 2)), (RING, (3,)), (KITE, (4,)), (KITE, (2, 3)),
         (KITE, (3, 2)),
         (STAR, (4,)), (STAR, (2, 3)), (SQUARE, (4,)), (CHORD, (4,)), (CHORD, (3, 2)), (KITE, (2, 2, 2)),
         (line_net(4), (3, 2))]
MORE = [(STAR, (2, 2, 2)), (BOW, (3, 3)), (BOW, (5,)), (BOW, (2, 4)), (BOW, (2, 2, 3)), (HANDLE, (3, 2, 2)),
        (HANDLE, (3, 3)),
        (HANDLE, (2, 4)), (HANDLE, (2, 3, 2))]


def dealings(net, dials):
    """All dealings that use each size just up."""
    weights = [len(lot) - 1 for lot in plain.blocks_of(net)]
    return [dealing for dealing in itertools.product(range(len(dials)), repeat=len(weights))
            if all(sum(weight for weight, told in zip(weights, dealing) if told == dial) == size - 1
                   for dial, size in enumerate(dials))]


def all_names(dials):
    return itertools.product(*[itertools.permutations(range(size)) for size in dials])


def laid_out(net, dealing, names):
    lots = plain.blocks_of(net)
    rows = []
    for stage in range(net[0]):
        row = []
        for dial, called in enumerate(names):
            own = tuple(lot for lot, told in zip(lots, dealing) if told == dial)
            row.append(called[plainnets.region(net, own, stage)])
        rows.append(tuple(row))
    return tuple(rows)


class Tights(Promises):

    def test_examples(self):
        self.gives(8, tight_many, ROW, (2, 2))
        self.gives(((0,), ((2, 0, 1),)), tight_parts, RING, (3,), ((2,), (0,), (1,)))

    def test_all_codes_that_can_be_read(self):
        for net, dials in LEAST:
            read = [rows for rows in plainnets.codes(net, dials) if () not in plainnets.parting(net, dials, rows)]
            self.gives(len(read), tight_many, net, dials)
            made = []
            for dealing in dealings(net, dials):
                for names in all_names(dials):
                    rows = laid_out(net, dealing, names)
                    self.gives(rows, tight_code, net, dials, dealing, names)
                    self.gives((dealing, names), tight_parts, net, dials, rows)
                    made.append(rows)
            self.assertEqual(sorted(made), sorted(read))

    def test_read_by_readers(self):
        for net, dials in LEAST[:8]:
            read = [rows for rows in plainnets.codes(net, dials) if is_readable(machine_by(net, dials, rows))]
            self.gives(len(read), tight_many, net, dials)

    def test_codes_of_more_nets(self):
        for net, dials in MORE:
            found = dealings(net, dials)
            names = list(all_names(dials))
            self.gives(len(found) * len(names), tight_many, net, dials)
            for dealing, called in itertools.product(found, names[::1 + len(names) // 12]):
                rows = laid_out(net, dealing, called)
                self.gives(rows, tight_code, net, dials, dealing, called)
                self.gives(None, bare_block, net, dials, rows)
                self.gives(True, is_trim, net, dials, rows)
                self.gives((dealing, called), tight_parts, net, dials, rows)

    def test_nets_without_a_block_of_three_stages(self):
        for net in (line_net(5), star_net(6), hung_on(line_net(6), 2, star_net(6)), line_net(11), star_net(11)):
            for dials in ((net[0],), (2,) * (net[0] - 1), (2, 3, *(2,) * (net[0] - 4)), (3, net[0] - 2)):
                self.gives(math.factorial(net[0] - 1) * plain.product(dials), tight_many, net, dials)

    def test_ten_blocks_and_twelve_stages(self):
        net = hung_on(hung_on(RING, 1, line_net(9)), 0, PAIR)
        self.assertEqual((net[0], len(plain.blocks_of(net))), (12, 10))
        # The ring's dial has the ring, and as many blocks of two stages as it still takes.
        self.gives(math.comb(9, 3) * math.factorial(6) * 2 ** 6 * math.factorial(6), tight_many, net, (6, *(2,) * 6))
        # The ring is either in the dial of four values or in that of three.
        ways = 9 * math.comb(8, 2) * math.factorial(6) + math.comb(9, 3) * math.factorial(6)
        self.gives(ways * math.factorial(4) * math.factorial(3) * 2 ** 6, tight_many, net, (4, 3, *(2,) * 6))
        self.gives(math.factorial(12), tight_many, ring_net(12), (12,))
        self.gives(0, tight_many, ring_net(12), (11, 2))

    def test_many_stages(self):
        rows = tuple((11 - stage,) for stage in range(12))
        self.gives(((0,) * 11, (tuple(range(11, -1, -1)),)), tight_parts, line_net(12), (12,), rows)
        self.gives(rows, tight_code, line_net(12), (12,), (0,) * 11, (tuple(range(11, -1, -1)),))


class Refused(Promises):

    def test_dials_that_are_not_used_just_up(self):
        for function, more in ((tight_many, ()), (tight_code, ((0, 1), ((0, 1), (0, 1)))),
                               (tight_parts, (((0, 0), (1, 0), (1, 1)),))):
            for wrong in (None, True, 0, (), (1, 3), [2, 2], (True, 2), "22", (2,), (4,), (2, 3), (2, 2, 2)):
                self.refuses("dials", function, ROW, wrong, *more)
                self.refuses("dials", function, ROW, wrong, *[None for _ in more])
            for dials in ((2,), (2, 2), (12,)):
                self.refuses("dials", function, POINT, dials, *more)

    def test_dealing_and_names(self):
        names = ((0, 1), (0, 1))
        for wrong in (None, True, 0, (), (0,), (0, 0), (1, 1), (0, 1, 0), (0, True), (False, 1), (0, 2), (-1, 1),
                      [0, 1], "01"):
            self.refuses("dealing", tight_code, ROW, (2, 2), wrong, names)
            self.refuses("dealing", tight_code, ROW, (2, 2), wrong, None)
        for wrong in (None, True, 0, (), names[:1], (*names, (0, 1)), ((0, 1), (0, 0)), ((0, 1), (0, 2)),
                      ((0, 1), (0,)),
                      ((0, 1), [0, 1]), list(names), ((0, 1), (False, True)), ((0, 1), (0, 1, 2))):
            self.refuses("names", tight_code, ROW, (2, 2), (1, 0), wrong)
        self.refuses("dealing", tight_code, KITE, (3, 2), (1, 0), ((0, 1, 2), (0, 1)))
        self.refuses("dealing", tight_code, KITE, (2, 3), (0, 1), ((0, 1), (0, 1, 2)))

    def test_rows(self):
        for wrong in (None, True, 0, (), ((0, 0), (1, 0)), ((0, 0), (1, 0), (1, 2)), ((0, 0), (1, 0), (1, True)),
                      [(0, 0), (1, 0), (1, 1)], ((0, 0), (1, 0), (1, 0)), ((0, 0), (0, 0), (0, 0)),
                      ((0, 0), (1, 0), (0, 0))):
            self.refuses("rows", tight_parts, ROW, (2, 2), wrong)
        self.refuses("rows", tight_parts, RING, (2, 2), ((0, 0), (1, 0), (1, 1)))


if __name__ == "__main__":
    unittest.main()
