"""[28], [29], [32], (G2): strong parts, rows that fool, and sweeps that are enough."""

import itertools
import unittest

from stoodthen.foolpapers import fool_paper, lets_fooling
from stoodthen.machines import machine_by, machine_of, stages_of, stepping_back, turning_by, weakened
from stoodthen.nets import line_net, ring_net, star_net
from stoodthen.readables import enough_sweeps, fooling_row, is_readable, row_answers, sweep_tour
from stoodthen.rightstages import is_safe
from stoodthen.strongparts import carries, parts_without, strong_parts
from tests import plain
from tests.samples import (
    BOTH, HUGE, KEPT, KITE, MB, MT, RING, RM, STILL, WIDE, Promises, counted_life, random_lean_life, random_life,
    random_machine, random_row, samples)

MACHINES = samples(random_machine, 120) + [MB, MT, RM, machine_of(STILL), machine_of(KEPT)]
MACHINES += [machine_of(life) for life in samples(random_life, 30)]
BAD_LOTS = (None, 0, "", [], [0], (3,), (0, 3), (1, 0), (0, 0), (-1,), (True,), (0, True), ((0,),))
BAD_ROWS = (None, (), (0, 0), (0, 0, 0, 0), (0, 0, 2), (True, 0, 0), (0, -1, 0), [0, 0, 0], 0, "000")


def rows_of(machine):
    return itertools.product(*[range(size) for size in machine[0]])


class Parts(Promises):

    def test_strong_parts(self):
        self.gives(((0,), (1,), (2,)), strong_parts, MT)
        self.gives(((0, 1, 2),), strong_parts, RM)
        self.gives(((0,), (1, 2), (3,)), strong_parts,
                   ((2,), (((0,), 0),) * 4, ((0, 1), (1, 2), (2, 1), (2, 3))))
        for machine in MACHINES:
            self.gives(plain.strong_parts(machine, range(len(machine[1]))), strong_parts, machine)

    def test_parts_without(self):
        self.gives(((1, 2),), parts_without, RM, 0)
        self.gives(((1,), (2,)), parts_without, MT, 0)
        self.gives((), parts_without, machine_of(STILL), 0)
        for machine in MACHINES:
            for stage in plain.stages(machine):
                self.gives(plain.strong_parts(machine, plain.without(machine, stage)), parts_without, machine, stage)
        for stage in (3, -1, True, False, None, "0", (0,)):
            self.refuses("stage", parts_without, MT, stage)

    def test_parts_of_many_spots(self):
        line = tuple((spot, spot + 1) for spot in range(299))
        self.gives(tuple((spot,) for spot in range(300)), strong_parts, ((2,), (((0,), 0),) * 300, line))
        ring = (*line, (299, 0))
        self.gives((tuple(range(300)),), strong_parts, ((2,), (((0,), 0),) * 300, ring))

    def test_carries(self):
        for machine in MACHINES[:60]:
            for lot in plain.lots(range(len(machine[1]))):
                for row in rows_of(machine):
                    self.gives(plain.carries(machine, lot, row), carries, machine, lot, row)
        self.gives(False, carries, RM, (), (0, 0, 0))
        self.gives(True, carries, RM, (0, 1), (0, 0, 0))
        for part in BAD_LOTS:
            self.refuses("part", carries, RM, part, None)
        for row in BAD_ROWS:
            self.refuses("row", carries, RM, (), row)


class Rows(Promises):

    def test_row_answers(self):
        self.gives((0,), row_answers, RM, (1, 0, 0))
        self.gives((), row_answers, RM, (0, 0, 0))
        self.gives((0, 1, 2), row_answers, RM, (1, 1, 1))
        self.gives((0,), row_answers, machine_of(STILL), (0,))
        for machine in MACHINES:
            for row in rows_of(machine):
                self.gives(plain.row_answers(machine, row), row_answers, machine, row)
        for row in BAD_ROWS:
            self.refuses("row", row_answers, RM, row)

    def test_fooling(self):
        self.gives((0, 0, 0), fooling_row, RM)
        self.gives(False, is_readable, RM)
        self.gives(None, fooling_row, MT)
        self.gives(True, is_readable, MT)
        for machine in MACHINES:
            fooling = [row for row in rows_of(machine) if not plain.row_answers(machine, row)]
            self.gives(fooling[0] if fooling else None, fooling_row, machine)
            self.gives(not fooling, is_readable, machine)

    def test_six_hundred_rows(self):
        machine = machine_of(counted_life((10, 10, 3), 300))
        self.gives(None, fooling_row, machine)
        twice = (machine[0], (*machine[1][:299], (machine[1][0][0], 299)), machine[2])
        self.gives(machine[1][0][0], fooling_row, twice)
        self.gives((4, 9, 5), fooling_row, machine_by(
            line_net(2), (5, 10, 12), ((4, 9, 5), (4, 9, 5))))


class Sweeps(Promises):

    def test_enough_sweeps(self):
        self.gives(3, enough_sweeps, MT)
        self.gives(0, enough_sweeps, machine_of(STILL))
        self.gives(1, enough_sweeps, RM)
        self.gives(1, enough_sweeps, machine_by(KITE, (2,), ((0,),) * 4))
        self.gives(1 + 3 - 1 + 2 - 1 + 2 - 1 + 3 - 1, enough_sweeps, MB)
        for machine in MACHINES:
            stages = plain.stages(machine)
            expected = 1 + sum(plain.most_parts(machine, stage) - 1 for stage in stages)
            self.gives(expected, enough_sweeps, machine)
            self.assertLessEqual(expected, (len(stages) - 1) * (len(machine[1]) - 1))

    def test_one_walk_and_not_all_parts(self):
        fork = ((2,), (((0,), 0), ((0,), 1), ((0,), 1), ((1,), 1)), ((0, 1), (0, 2), (0, 3)))
        # Without stage 0 three parts are left, but each walk goes through one.
        self.gives(1 + (1 - 1) + (1 - 1), enough_sweeps, fork)

    def test_sweep_tour(self):
        self.gives((), sweep_tour, (2, 3), 0)
        self.gives((0, 1), sweep_tour, (2, 3), 1)
        self.gives((0, 1, 2) * 3, sweep_tour, (2, 2, 2), 3)
        for many in (-1, True, False, None, "1", (1,), []):
            self.refuses("many", sweep_tour, (2, 3), many)

    def test_enough_sweeps_are_safe(self):
        for machine in MACHINES:
            dials = machine[0]
            many = enough_sweeps(machine)
            sweep = tuple(reversed(range(len(dials))))
            tours = [sweep_tour(dials, many), sweep * many, ((sweep_tour(dials, 1) + sweep) * many)[:len(dials) * many]]
            for tour in tours:
                if plain.product([dials[dial] for dial in tour]) > 5000:
                    continue
                if is_readable(machine):
                    self.gives(True, is_safe, machine, tour)
                else:
                    self.gives(False, is_safe, machine, tour)

    def test_lives_need_spots_less_one_sweeps(self):
        for life in samples(random_lean_life, 30, 5):
            machine = machine_of(life)
            tour = sweep_tour(life[0], len(life[1]) - 1)
            if is_readable(machine) and plain.product([life[0][dial] for dial in tour]) <= 5000:
                self.gives(True, is_safe, machine, tour)


class Papers(Promises):

    def test_fool_paper(self):
        self.gives(((0, 0, 0), ((1, 2), (0, 2), (0, 1))), fool_paper, RM)
        self.gives(None, fool_paper, MT)
        self.gives(None, fool_paper, machine_of(STILL))
        for machine in MACHINES:
            paper = fool_paper(machine)
            row = fooling_row(machine)
            self.assertEqual(paper is None, row is None)
            if paper is not None:
                self.assertEqual(paper[0], row)
                self.gives(row, lets_fooling, machine, paper)

    def test_lets_fooling(self):
        row, parts = (0, 0, 0), ((1, 2), (0, 2), (0, 1))
        self.gives(row, lets_fooling, RM, (row, parts))
        for thing in (None, (), (row,), (row, parts, ()), [row, parts], 0, ""):
            self.rejects("shape", -1, lets_fooling, RM, thing)
        for wrong in BAD_ROWS:
            self.rejects("row", -1, lets_fooling, RM, (wrong, None))
        for wrong in (None, (), parts[:2], (*parts, (0,)), list(parts), 0, ""):
            self.rejects("parts", -1, lets_fooling, RM, (row, wrong))
        for place in range(3):
            meeting = tuple(spot for spot in (0, 1, 2) if spot != (place + 1) % 3)
            for wrong in (*BAD_LOTS, (), (0, 1, 2), meeting, (place,), ((place + 1) % 3,)):
                paper = (*parts[:place], wrong, *([None] * (2 - place)))
                self.rejects("part", place, lets_fooling, RM, (row, paper))

    def test_parts_that_are_not_the_greatest(self):
        machine = machine_by(line_net(4), (2,), ((0,), (1,), (0,), (1,)))
        self.gives((1,), lets_fooling, machine, ((1,), ((1,), (3,), (1,), (1,))))
        self.gives((0,), lets_fooling, machine, ((0,), ((2,), (0,), (0, 1), (0, 1, 2))))
        self.rejects("part", 1, lets_fooling, machine, ((0,), ((2,), (0, 2), (0,), (0,))))

    def test_not_strong(self):
        line = ((2,), (((0,), 0), ((0,), 1), ((1,), 2), ((0,), 2)), ((0, 1), (1, 2), (2, 3)))
        self.rejects("part", 0, lets_fooling, line, ((0,), ((1, 2), (0,), (0,))))
        self.gives((0,), lets_fooling, line, ((0,), ((1,), (0,), (0,))))
        ring = ((2,), line[1], ((0, 1), (1, 2), (2, 3), (3, 0)))
        # Spots 1 and 3 come to each other, but not by moves within the lot.
        self.rejects("part", 0, lets_fooling, ring, ((0,), ((1, 3), (0,), (0,))))

    def test_readable_machines_have_no_paper(self):
        for machine in [machine for machine in MACHINES if fooling_row(machine) is None and len(machine[1]) < 4]:
            lots = [lot for lot in plain.lots(range(len(machine[1])))]
            stages = stages_of(machine)
            for row in rows_of(machine):
                for parts in itertools.product(lots, repeat=len(stages)):
                    with self.assertRaises(ValueError):
                        lets_fooling(machine, (row, parts))


class Large(Promises):

    def test_three_hundred_spots(self):
        life = counted_life((2,) * 6, 60)
        back = stepping_back(life[0], tuple(row for row, _ in life[1]), 4)
        self.assertEqual(len(back[1]), 290)
        paper = fool_paper(back)
        self.assertEqual(lets_fooling(back, paper), fooling_row(back))
        self.assertEqual(len(strong_parts(back)), 60)
        slow = weakened(machine_of(counted_life((2, 5, 10), 100)))
        self.assertEqual(len(strong_parts(slow)), 100 + 99)
        self.gives(True, is_readable, slow)

    def test_undo_machines(self):
        for net in (RING, KITE, star_net(5), ring_net(4)):
            for rows in samples(lambda rng: tuple(random_row(rng, (2, 3)) for _ in range(net[0])), 8):
                self.gives(1, enough_sweeps, machine_by(net, (2, 3), rows))
                made = turning_by(net, (2, 3), rows)
                if is_readable(made):
                    many = min(enough_sweeps(made), 4)
                    if many == enough_sweeps(made):
                        self.gives(True, is_safe, made, sweep_tour((2, 3), many))


if __name__ == "__main__":
    unittest.main()
