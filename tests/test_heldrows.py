"""[67], [71], (G9), (G10): the rows of the work of a holding, and its machine."""

import itertools
import unittest

from stoodthen.blocks import blocks_of
from stoodthen.gates import gates_of
from stoodthen.handed import bare_block, is_trim
from stoodthen.heldmachines import held_machine
from stoodthen.heldrows import code_rows, passed_row, rows_at, rows_each
from stoodthen.machines import is_undo, machine_by
from stoodthen.nets import line_net, ring_net
from stoodthen.readables import is_readable
from stoodthen.rightstages import is_safe, right_stages
from stoodthen.seenviews import views_of
from stoodthen.sinks import held_told, told_gates
from tests import plain, plainnets
from tests.heldsamples import BOTH_SHARED, HELD, TIED
from tests.samples import CHORD, KITE, POINT, RING, ROW, Promises

WORKS = [(held, plainnets.work(*held)) for held in HELD]
NO_STAGES = (None, True, False, -1, "1", (), (1,), [1], 10 ** 69)


class Rows(Promises):

    def test_examples(self):
        self.gives(((0, 1, 1), (1, 0, 0)), rows_at, RING, (2, 2, 2), TIED, 1)
        self.gives((1, 0, 1), passed_row, RING, (2, 2, 2), TIED, (1, 0, 0), 1, 2)

    def test_all_that_the_work_comes_to(self):
        for held, states in WORKS:
            for stage in range(held[0][0]):
                rows = plainnets.rows_at(states, stage)
                self.gives(rows, rows_at, *held, stage)
                self.gives(len(rows), rows_each, *held)

    def test_passings(self):
        for held, states in WORKS:
            for (stage, row), behind in states.items():
                for there, turned in behind.items():
                    self.gives(turned, passed_row, *held, row, stage, there)

    def test_codes_of_shared_blocks(self):
        codes = 0
        for held, states in WORKS:
            if all(word == "dial" for word, _ in held[2]):
                codes += 1
                rows = code_rows(*held)
                self.assertEqual({(stage, row) for stage, row in enumerate(rows)}, set(states))
                self.gives(None, bare_block, *held[:2], rows)
                self.gives(True, is_trim, *held[:2], rows)
                if plain.product(held[1]) <= 100:
                    self.gives(True, is_readable, machine_by(*held[:2], rows))
            else:
                self.refuses("holding", code_rows, *held)
        self.assertGreater(codes, 10)

    def test_told(self):
        for held, _ in WORKS:
            for stage in range(held[0][0]):
                for row in rows_at(*held, stage):
                    self.gives(gates_of(held[0], stage), told_gates, *held, row)
                    self.gives(stage, held_told, *held, row)

    def test_net_of_one_stage(self):
        self.gives(((0, 0),), code_rows, POINT, (2, 3), ())
        self.gives(1, rows_each, POINT, (2, 3), ())
        self.gives(((0, 0),), rows_at, POINT, (2, 3), (), 0)
        self.refuses("there", passed_row, POINT, (2, 3), (), (0, 0), 0, 0)

    def test_twelve_stages(self):
        line = line_net(12)
        self.gives(tuple((stage,) for stage in range(12)), code_rows, line, (12,), (("dial", 0),) * 11)
        ring = ring_net(12)
        holding = (("ties", tuple(range(12))),)
        self.gives(2, rows_each, ring, (2,) * 12, holding)
        self.gives(((0,) * 12, (1,) * 12), rows_at, ring, (2,) * 12, holding, 0)
        self.gives(((0, 1, *(0,) * 10), (1, 0, *(1,) * 10)), rows_at, ring, (2,) * 12, holding, 11)
        self.gives((0,) * 12, passed_row, ring, (2,) * 12, holding, (0, 1, *(0,) * 10), 11, 0)

    def test_many_rows(self):
        """A block of six stages with thirteen ties: two to the power of eight rows."""
        net = (6, tuple(itertools.combinations(range(6), 2))[:13])
        self.assertEqual(len(blocks_of(net)), 1)
        holding = (("ties", tuple(range(13))),)
        self.gives(256, rows_each, net, (2,) * 13, holding)
        for stage in (0, 3, 5):
            rows = rows_at(net, (2,) * 13, holding, stage)
            self.assertEqual((len(set(rows)), list(rows)), (256, sorted(rows)))
            for row in rows:
                self.gives(stage, held_told, net, (2,) * 13, holding, row)
        full = tuple(itertools.combinations(range(12), 2))[:24]
        wide = (12, tuple(sorted({*full[:13], *[(stage, stage + 1) for stage in range(11)]})))
        ties = len(wide[1])
        shared = tuple(("ties", tuple(wide[1].index(tie) for tie in plainnets.within(wide, lot)))
                       for lot in blocks_of(wide))
        free = sum(len(plainnets.within(wide, lot)) - len(lot) + 1 for lot in blocks_of(wide))
        self.gives(2 ** free, rows_each, wide, (2,) * ties, shared)

    def test_rows_that_the_work_cannot_have(self):
        for held, states in WORKS:
            net, dials, _ = held
            for row in plainnets.all_rows(dials):
                for here in range(net[0]):
                    if (here, row) not in states:
                        self.refuses("row", passed_row, *held, row, here, 0)
                        self.refuses("row", passed_row, *held, row, here, None)


class Refused(Promises):

    def test_dials_and_holding(self):
        for function, more in ((code_rows, ()), (rows_each, ()), (rows_at, (0,)), (held_machine, ()),
                               (passed_row, ((0, 0), 0, 1))):
            for wrong in (None, True, 0, (), (1, 3), [2, 2], (True, 3), "23"):
                self.refuses("dials", function, ROW, wrong, BOTH_SHARED, *more)
                self.refuses("dials", function, ROW, wrong, None, *[None for _ in more])
            for wrong in (None, True, 0, (), BOTH_SHARED[:1], list(BOTH_SHARED), (("dial", 1), ("dial", True)),
                          (("ties", (1,)), ("ties", (1,))), (("dial", 0),) * 3, (("dial", 0), ("dial", 2))):
                self.refuses("holding", function, ROW, (3, 3), wrong, *more)
                self.refuses("holding", function, ROW, (3, 3), wrong, *[None for _ in more])
            self.refuses("holding", function, ROW, (2, 2), BOTH_SHARED, *more)

    def test_tied_blocks_have_no_code(self):
        self.refuses("holding", code_rows, RING, (2, 2, 2), TIED)
        self.refuses("holding", code_rows, ROW, (2, 2), (("dial", 0), ("ties", (1,))))
        self.refuses("holding", code_rows, ROW, (2, 2), (("ties", (0,)), ("dial", 1)))

    def test_stages(self):
        for wrong in (*NO_STAGES, 3):
            self.refuses("stage", rows_at, ROW, (3,), BOTH_SHARED, wrong)

    def test_passed_row_in_its_sequence(self):
        row = (1, 0, 0)
        for wrong in (None, True, 0, (), (0, 0), (0, 0, 2), (0, 0, True), [1, 0, 0], "100"):
            self.refuses("row", passed_row, RING, (2, 2, 2), TIED, wrong, 1, 2)
            self.refuses("row", passed_row, RING, (2, 2, 2), TIED, wrong, None, None)
        for wrong in (*NO_STAGES, 3):
            self.refuses("here", passed_row, RING, (2, 2, 2), TIED, row, wrong, 2)
            self.refuses("here", passed_row, RING, (2, 2, 2), TIED, (1, 1, 1), wrong, None)
        for here in (0, 2):
            self.refuses("row", passed_row, RING, (2, 2, 2), TIED, row, here, None)
        for wrong in (*NO_STAGES, 1, 3):
            self.refuses("there", passed_row, RING, (2, 2, 2), TIED, row, 1, wrong)
        self.refuses("there", passed_row, ROW, (3,), BOTH_SHARED, (0,), 0, 2)
        self.refuses("there", passed_row, ROW, (3,), BOTH_SHARED, (0,), 0, 0)
        self.refuses("row", passed_row, ROW, (3, 2), BOTH_SHARED, (0, 1), 0, 1)


class Machines(Promises):

    def test_all_that_the_work_comes_to(self):
        for held, states in WORKS:
            spots = sorted((stage, row) for stage, row in states)
            moves = sorted((spots.index(state), spots.index((there, row)))
                           for state, behind in states.items() for there, row in behind.items())
            machine = (held[1], tuple((row, stage) for stage, row in spots), tuple(moves))
            self.gives(machine, held_machine, *held)
            self.is_machine(machine)
            self.gives(True, is_undo, machine)

    def test_read_right_by_one_look_at_each_dial_in_any_sequence(self):
        tours = 0
        for held, _ in WORKS:
            machine = held_machine(*held)
            dials = held[1]
            if plain.product(dials) > 40 or len(dials) > 4 or len(machine[1]) > 24:
                continue
            for tour in itertools.permutations(range(len(dials))):
                tours += 1
                self.gives(True, is_safe, machine, tour)
                for view in views_of(machine, tour):
                    row = tuple(value for _, value in sorted(zip(tour, view)))
                    self.assertIn(held_told(*held, row), right_stages(machine, tour, view))
        self.assertGreater(tours, 100)

    def test_ring_and_chord(self):
        machine = held_machine(RING, (2, 2, 2), TIED)
        self.assertEqual((len(machine[1]), len(machine[2])), (6, 12))
        machine = held_machine(CHORD, (2,) * 5, (("ties", (0, 1, 2, 3, 4)),))
        self.assertEqual((len(machine[1]), len(machine[2])), (16, 40))
        self.gives(((4,), (((0,), 0), ((1,), 1), ((2,), 2), ((3,), 3)),
                    ((0, 1), (0, 2), (1, 0), (1, 2), (2, 0), (2, 1), (2, 3), (3, 2))), held_machine, KITE, (4,),
                   BOTH_SHARED)
        self.gives(((2,), (((0,), 0),), ()), held_machine, POINT, (2,), ())

    def test_nearly_three_hundred_spots(self):
        net = (9, tuple(sorted({(stage, stage + 1) for stage in range(8)} | {(0, 8), (0, 4), (2, 6), (1, 7), (3, 5)})))
        self.assertEqual(len(blocks_of(net)), 1)
        machine = held_machine(net, (2,) * 13, (("ties", tuple(range(13))),))
        self.assertEqual((len(machine[1]), len(machine[2])), (9 * 32, 2 * 13 * 32))
        self.is_machine(machine)


if __name__ == "__main__":
    unittest.main()
