"""[66], [71], (G9): codes that are handed in, which blocks their dials part, and what their rows tell."""

import itertools
import random
import unittest

from stoodthen.dealings import deals_many
from stoodthen.errors import Unseen
from stoodthen.handed import bare_block, bare_row, handed_told, is_trim, parting_dials, parts_block
from stoodthen.machines import is_undo, machine_by, turning_by
from stoodthen.nets import line_net, ring_net, star_net
from stoodthen.readables import is_readable
from stoodthen.rightstages import is_safe, right_stages
from stoodthen.seenviews import views_of
from tests import plain, plainnets
from tests.samples import (
    BOW, CHORD, HANDLE, KITE, PAIR, POINT, RING, ROW, SQUARE, STAR, Promises, random_machine, samples)

LINED = ((0, 0), (1, 0), (1, 1))
BENT = ((0, 0), (0, 1), (1, 1))
# Nets and dials of which all codes are gone through, and others of which some are.
ALL = ((POINT, (2,)), (PAIR, (2,)), (PAIR, (2, 2)), (PAIR, (3, 2)), (ROW, (2,)), (ROW, (2, 2)), (ROW, (3,)),
       (RING, (2, 2)),
       (RING, (3,)), (RING, (4,)), (STAR, (4,)), (KITE, (4,)))
SOME = ((ROW, (3, 2)), (ROW, (2, 2, 2)), (RING, (3, 2)), (KITE, (2, 3)), (STAR, (2, 3)), (STAR, (2, 2, 2)),
        (BOW, (3, 3)),
        (HANDLE, (2, 4)), (CHORD, (4, 2)), (SQUARE, (4,)), (KITE, (3, 2, 2)))


def handed_codes():
    found = [(net, dials, rows) for net, dials in ALL for rows in plainnets.codes(net, dials)]
    rng = random.Random(66)
    for net, dials in SOME:
        rows = plainnets.all_rows(dials)
        found += [(net, dials, tuple(rng.choice(rows) for _ in range(net[0]))) for _ in range(25)]
        # Such as nearly part all blocks: a code that does, with one row changed.
        good = [code for code in [tuple(rng.choice(rows) for _ in range(net[0])) for _ in range(3000)]
                if () not in plainnets.parting(net, dials, code)][:12]
        found += [(net, dials, code) for code in good]
        for code in good:
            place = rng.randrange(net[0])
            found.append((net, dials, (*code[:place], rng.choice(rows), *code[place + 1:])))
    return found


CODES = handed_codes()
PARTED = [code for code in CODES if () not in plainnets.parting(*code)]


def told(net, dials, rows, row):
    """What the row tells by the least parting dials, or None and the least one that shows no stage's value."""
    least = [lot[0] for lot in plainnets.parting(net, dials, rows)]
    lost = [dial for dial in least if row[dial] not in [other[dial] for other in rows]]
    if lost:
        return None, min(lost)
    gates = []
    for dial, lot in zip(least, plain.blocks_of(net)):
        found = {plainnets.gate(net, lot, stage) for stage in range(net[0]) if rows[stage][dial] == row[dial]}
        gates.append(*found)
    return plainnets.sinks(net, gates)[0], None


class Handed(Promises):

    def test_examples(self):
        self.gives(((0,), (1,)), parting_dials, ROW, (2, 2), LINED)
        self.gives(0, handed_told, ROW, (2, 2), LINED, (0, 1))
        self.gives((1, 0), bare_row, RING, (2, 2), LINED)

    def test_all_codes(self):
        for net, dials, rows in CODES:
            parting = plainnets.parting(net, dials, rows)
            self.gives(parting, parting_dials, net, dials, rows)
            self.gives(parting.index(()) if () in parting else None, bare_block, net, dials, rows)
            self.gives(plainnets.bare_row(net, dials, rows), bare_row, net, dials, rows)
            trim = all(sum(a != b for a, b in zip(rows[one], rows[other])) == 1 for one, other in net[1])
            self.gives(trim, is_trim, net, dials, rows)
            for dial, (block, lot) in itertools.product(range(len(dials)), enumerate(parting)):
                self.gives(dial in lot, parts_block, net, dials, rows, dial, block)

    def test_told(self):
        unseen = 0
        for net, dials, rows in PARTED:
            for row in plainnets.all_rows(dials):
                stage, lost = told(net, dials, rows, row)
                if lost is None:
                    self.gives(stage, handed_told, net, dials, rows, row)
                else:
                    unseen += 1
                    self.fails(Unseen, (lost,), handed_told, net, dials, rows, row)
            for stage in range(net[0]):
                self.gives(stage, handed_told, net, dials, rows, rows[stage])
        self.assertGreater(unseen, 50)

    def test_dials_that_tell_nothing_do_not_matter(self):
        rows = ((0, 0, 2), (0, 1, 2), (0, 2, 2))
        for row in itertools.product((0, 1), (1,), range(3)):
            self.gives(1, handed_told, ROW, (2, 3, 3), rows, row)
        self.gives(0, handed_told, POINT, (3, 3), ((1, 1),), (2, 0))
        self.fails(Unseen, (1,), handed_told, ROW, (4, 4, 4), ((3, 0, 0), (3, 1, 1), (3, 2, 2)), (0, 3, 3))

    def test_the_least_dial_that_shows_no_stage(self):
        rows = ((1, 0), (1, 1), (0, 1))
        self.gives(((1,), (0,)), parting_dials, ROW, (3, 3), rows)
        self.fails(Unseen, (0,), handed_told, ROW, (3, 3), rows, (2, 2))
        self.fails(Unseen, (1,), handed_told, ROW, (3, 3), rows, (0, 2))

    def test_one_stage(self):
        self.gives((), parting_dials, POINT, (2,), ((1,),))
        self.gives(None, bare_block, POINT, (2,), ((1,),))
        self.gives(None, bare_row, POINT, (2,), ((1,),))
        self.gives(True, is_trim, POINT, (2,), ((1,),))
        self.refuses("block", parts_block, POINT, (2,), ((1,),), 0, 0)

    def test_twelve_stages(self):
        line = tuple((stage,) for stage in range(12))
        self.gives(((0,),) * 11, parting_dials, line_net(12), (12,), line)
        self.gives(((0,),), parting_dials, ring_net(12), (12,), line)
        self.gives(7, handed_told, star_net(12), (12,), line, (7,))
        bits = tuple(tuple(int(bit <= stage) for bit in range(1, 12)) for stage in range(12))
        self.gives(tuple((dial,) for dial in range(11)), parting_dials, line_net(12), (2,) * 11, bits)
        self.gives(True, is_trim, line_net(12), (2,) * 11, bits)
        self.gives(0, bare_block, ring_net(12), (2,) * 11, bits)
        # Stage 0 alone has a 0 in the first dial.
        self.gives((1,) + (0,) * 10, bare_row, ring_net(12), (2,) * 11, bits)


class Guarantees(Promises):

    def test_read_exactly_if_no_block_is_bare(self):
        found = {True: 0, False: 0}
        for net, dials, rows in CODES:
            parted = bare_block(net, dials, rows) is None
            found[parted] += 1
            self.gives(parted, is_readable, machine_by(net, dials, rows))
        self.assertGreater(min(found.values()), 100)

    def test_read_by_one_look_at_each_dial_in_any_sequence(self):
        for net, dials, rows in PARTED[::3]:
            machine = machine_by(net, dials, rows)
            for tour in itertools.permutations(range(len(dials))):
                self.gives(True, is_safe, machine, tour)
                for view in views_of(machine, tour):
                    row = tuple(value for _, value in sorted(zip(tour, view)))
                    self.assertIn(handed_told(net, dials, rows, row), right_stages(machine, tour, view))

    def test_turned_one_by_one_only_if_the_code_is_trim_besides(self):
        found = {}
        for net, dials, rows in CODES[::2] + PARTED:
            parted, trim = bare_block(net, dials, rows) is None, is_trim(net, dials, rows)
            found[parted, trim] = found.get((parted, trim), 0) + 1
            self.gives(parted and trim, is_readable, turning_by(net, dials, rows))
        self.assertEqual(len(found), 4)

    def test_some_code_is_read_exactly_if_blocks_can_be_dealt(self):
        for net, dials in (*ALL, (KITE, (2, 2)), (STAR, (2, 2)), (SQUARE, (2, 2)), (KITE, (3,)), (STAR, (3, 2))):
            codes = list(plainnets.codes(net, dials))
            dealt = deals_many(net, dials) > 0
            self.assertEqual(any(bare_block(net, dials, rows) is None for rows in codes), dealt)
            self.assertEqual(any(bare_block(net, dials, rows) is None and is_trim(net, dials, rows) for rows in codes),
                             dealt)

    def test_undo_machines_with_too_many_stages(self):
        found = 0
        for machine in samples(random_machine, 4000):
            both = tuple(sorted({*machine[2], *[(there, here) for here, there in machine[2]]}))
            undo = (machine[0], machine[1], both)
            self.assertTrue(is_undo(undo))
            if len(plain.stages(undo)) > 1 + sum(machine[0]) - len(machine[0]):
                found += 1
                self.gives(False, is_readable, undo)
        self.assertGreater(found, 100)


class Refused(Promises):

    def test_dials_and_rows(self):
        for function, more in ((parts_block, (0, 0)), (parting_dials, ()), (bare_block, ()), (bare_row, ()),
                               (is_trim, ()),
                               (handed_told, ((0, 0),))):
            for wrong in (None, True, 0, (), (1, 2), [2, 2], (True, 2), "22"):
                self.refuses("dials", function, ROW, wrong, LINED, *more)
                self.refuses("dials", function, ROW, wrong, None, *[None for _ in more])
            for wrong in (None, True, 0, (), LINED[:2], (*LINED, (0, 0)), list(LINED), ((0, 0), (1, 0), (1, 2)),
                          ((0, 0), (1, 0), (1, True)), ((0, 0), (1, 0), (1,)), ([0, 0], (1, 0), (1, 1))):
                self.refuses("rows", function, ROW, (2, 2), wrong, *more)
                self.refuses("rows", function, ROW, (2, 2), wrong, *[None for _ in more])

    def test_dial_and_block(self):
        for wrong in (None, True, False, -1, 2, "0", (), [0], 10 ** 69):
            self.refuses("dial", parts_block, ROW, (2, 2), LINED, wrong, 0)
            self.refuses("dial", parts_block, ROW, (2, 2), LINED, wrong, None)
            self.refuses("block", parts_block, ROW, (2, 2), LINED, 1, wrong)

    def test_bare_blocks_tell_nothing(self):
        for row in ((0, 0), (1, 1), None, (0, 2), (0,)):
            self.refuses("rows", handed_told, RING, (2, 2), LINED, row)
            self.refuses("rows", handed_told, ROW, (2, 2), ((0, 0), (1, 0), (0, 0)), row)

    def test_row(self):
        for wrong in (None, True, 0, (), (0,), (0, 0, 0), (0, 2), (0, -1), (True, 0), [0, 0], "00"):
            self.refuses("row", handed_told, ROW, (2, 2), LINED, wrong)
            self.refuses("row", handed_told, ROW, (2, 2), BENT, wrong)


if __name__ == "__main__":
    unittest.main()
