"""[5], [17], [22]: machines, their checker, and how they are made."""

import itertools
import unittest

from stoodthen.machinechecker import lets_machine
from stoodthen.machines import (
    goes_to, is_undo, is_walk, machine_by, machine_of, spots_with, stages_of, stepping_back, turning_by, weakened)
from stoodthen.nets import line_net, star_net
from tests import plain
from tests.samples import (
    BOTH, HUGE, KEPT, KITE, MB, MT, ODD, POINT, RING, RM, ROW, STILL, TWO, WIDE, Promises, counted_life,
    random_life, random_machine, random_row, samples)

MACHINES = samples(random_machine, 80)


class Checker(Promises):

    def test_machines(self):
        for machine in (MB, MT, RM, *MACHINES, machine_of(STILL)):
            self.gives(len(machine[1]), lets_machine, machine)

    def test_stages_may_come_as_they_like(self):
        self.gives(3, lets_machine, ((2,), (((0,), 7), ((0,), 10 ** 69), ((1,), 0)), ((0, 1), (0, 2))))

    def test_limits_do_not_count(self):
        line = tuple(((0,), 0) for _ in range(700))
        self.gives(700, lets_machine, ((2,), line, tuple((spot, spot + 1) for spot in range(699))))
        self.gives(1, lets_machine, (WIDE, (((0,) * 199, 0),), ()))
        self.gives(1, lets_machine, (HUGE, (((5,), 0),), ()))

    def test_shape(self):
        for thing in (*ODD, MB[:2], (*MB, ()), list(MB), TWO):
            self.rejects("shape", -1, lets_machine, thing)

    def test_dials_and_spots(self):
        for dials in (None, (), (1,), (2, True), [2, 2], 0, "22"):
            self.rejects("dials", -1, lets_machine, (dials, None, None))
        for thing in ((), None, [], list(MB[1]), 0, ""):
            self.rejects("spots", -1, lets_machine, ((2, 2), thing, None))

    def test_each_spot(self):
        good = ((0, 0), 0)
        for place in range(3):
            ahead = (good,) * place
            for spot in (None, (), ((0, 0),), ((0, 0), 0, 0), [(0, 0), 0], 0, ""):
                self.rejects("shape", place, lets_machine, ((2, 2), (*ahead, spot, good), None))
            for row in (None, (0,), (0, 0, 0), (0, 2), (True, 0), [0, 0], (0, -1)):
                self.rejects("row", place, lets_machine, ((2, 2), (*ahead, (row, None), None), None))
            for stage in (None, -1, True, False, "0", (0,), [0], -(10 ** 69)):
                self.rejects("stage", place, lets_machine, ((2, 2), (*ahead, ((0, 0), stage), None), None))

    def with_moves(self, moves, many=3):
        return ((2,), (((0,), 0),) * many, moves)

    def test_moves(self):
        for moves in (None, [], [(0, 1)], 0, "", True):
            self.rejects("moves", -1, lets_machine, self.with_moves(moves))
            self.rejects("moves", -1, lets_machine, self.with_moves(moves, 1))

    def test_each_move(self):
        good = ((0, 1), (0, 2), (1, 0))
        self.gives(3, lets_machine, self.with_moves(good))
        wrong = [None, (), (2,), (2, 0, 1), [2, 0], (2, 2), (2, 3), (3, 0), (2, -1), (2, True), (2, None), 2, "20",
                 (1, 0), (0, 2), (0, 1)]
        for move in wrong:
            self.rejects("move", 3, lets_machine, self.with_moves((*good, move, None)))
        for move in wrong[:-3]:
            self.rejects("move", 0, lets_machine, self.with_moves((move, None)))
        self.rejects("move", 1, lets_machine, self.with_moves(((0, 1), (0, 1), (0, 2))))
        self.rejects("move", 0, lets_machine, self.with_moves(((True, 0), (0, 1), (0, 2))))

    def test_unreached(self):
        self.rejects("unreached", 1, lets_machine, self.with_moves(()))
        self.rejects("unreached", 1, lets_machine, self.with_moves(((0, 2),)))
        self.rejects("unreached", 2, lets_machine, self.with_moves(((0, 1), (1, 0))))
        self.rejects("unreached", 1, lets_machine, self.with_moves(((0, 3), (1, 2), (2, 1)), 4))
        self.gives(4, lets_machine, self.with_moves(((0, 3), (2, 1), (3, 2)), 4))


class Telling(Promises):

    def test_machine_of(self):
        self.gives((*TWO, ((0, 1), (1, 2))), machine_of, TWO)
        self.gives((*STILL, ()), machine_of, STILL)
        for life in samples(random_life, 30):
            self.is_machine(machine_of(life))
            expected = tuple((spot, spot + 1) for spot in range(len(life[1]) - 1))
            self.gives((*life, expected), machine_of, life)
        life = counted_life((2,) * 9, 300)
        self.assertEqual(machine_of(life)[2][-1], (298, 299))

    def test_stages_and_spots(self):
        self.gives((0, 1, 2), stages_of, machine_of(KEPT))
        self.gives((2, 3), spots_with, machine_of(KEPT), 1)
        odd = ((2,), (((0,), 9), ((0,), 4), ((1,), 9)), ((0, 1), (0, 2)))
        self.gives((4, 9), stages_of, odd)
        self.gives((1, 8, 16), stages_of, ((2,), (((0,), 16), ((0,), 8), ((0,), 1)), ((0, 1), (1, 2))))
        self.gives((0, 2), spots_with, odd, 9)
        for stage in (0, 8, -1, True, None, "4", (4,)):
            self.refuses("stage", spots_with, odd, stage)
        self.refuses("stage", spots_with, MT, True)
        for machine in MACHINES:
            self.gives(tuple(plain.stages(machine)), stages_of, machine)
            for stage in plain.stages(machine):
                expected = tuple(spot for spot, (_, at) in enumerate(machine[1]) if at == stage)
                self.gives(expected, spots_with, machine, stage)

    def test_goes_to(self):
        self.gives((1,), goes_to, MT, 0)
        self.gives((), goes_to, MT, 2)
        self.gives((0, 2), goes_to, RM, 1)
        for spot in (3, -1, True, False, None, "0", (0,)):
            self.refuses("spot", goes_to, MT, spot)

    def test_undo(self):
        self.gives(True, is_undo, RM)
        self.gives(False, is_undo, MT)
        self.gives(True, is_undo, machine_of(STILL))
        for machine in MACHINES:
            self.gives(all((there, here) in machine[2] for here, there in machine[2]), is_undo, machine)

    def test_walks(self):
        for walk in ((0,), (2,), (0, 1), (0, 1, 2), (1, 2)):
            self.gives(True, is_walk, MT, walk)
        bad = [(), (3,), (0, 2), (1, 0), (0, 0), (0, 1, 1), (-1,), (True,), (0, True), [0], [0, 1], None, 0, ((0,),)]
        for walk in bad:
            self.gives(False, is_walk, MT, walk)
        self.gives(True, is_walk, RM, (0, 1, 0, 2, 1) * 400 + (0,))
        for thing in ODD:
            if thing != (0,) and thing != (0, 10 ** 69):
                self.gives(False, is_walk, MT, thing)


class Made(Promises):

    def test_machine_by(self):
        rows = ((0, 0), (1, 0), (1, 1))
        self.gives(((2, 2), tuple(zip(rows, range(3))), ((0, 1), (1, 0), (1, 2), (2, 1))), machine_by, ROW, (2, 2),
                   rows)
        self.gives(((2,), (((1,), 0),), ()), machine_by, POINT, (2,), ((1,),))
        self.assertEqual(RM[2], ((0, 1), (0, 2), (1, 0), (1, 2), (2, 0), (2, 1)))
        for net in (KITE, RING, star_net(12), line_net(12)):
            made = machine_by(net, (2,), ((0,),) * net[0])
            self.is_machine(made)
            self.gives(True, is_undo, made)

    def test_refused_codes(self):
        for function in (machine_by, turning_by):
            for dials in (None, (), (1,), [2, 2], (2, True), 0):
                self.refuses("dials", function, ROW, dials, None)
            good = ((0, 0), (1, 0), (1, 1))
            for rows in (None, (), good[:2], (*good, (0, 0)), list(good), (*good[:2], (1, 2)), (*good[:2], (1,)),
                         (*good[:2], [1, 1]), (*good[:2], (True, 1)), (*good[:2], None)):
                self.refuses("rows", function, ROW, (2, 2), rows)

    def test_turning_by(self):
        made = turning_by((2, ((0, 1),)), (3, 2), ((0, 0), (2, 1)))
        self.assertEqual(made, ((3, 2), (
            ((0, 0), 0), ((2, 1), 1),
            ((2, 0), 0), ((0, 1), 0),
            ((0, 1), 1), ((2, 0), 1)),
            ((0, 2), (0, 3), (1, 4), (1, 5), (2, 1), (3, 1), (4, 0), (5, 0))))
        self.gives(machine_by(ROW, (2, 2), ((0, 0), (1, 0), (1, 1))), turning_by, ROW, (2, 2),
                   ((0, 0), (1, 0), (1, 1)))
        self.gives(machine_by(ROW, (2,), ((1,),) * 3), turning_by, ROW, (2,), ((1,),) * 3)

    def test_turning_three_dials(self):
        made = turning_by((2, ((0, 1),)), (2, 2, 2, 2), ((0, 0, 1, 0), (1, 1, 1, 1)))
        self.is_machine(made)
        lots = [(0,), (0, 1), (0, 3), (1,), (1, 3), (3,)]
        for first, here, there in ((2, 0, 1), (8, 1, 0)):
            rows = [made[1][here][0], made[1][there][0]]
            names = {(): here, (0, 1, 3): there}
            for place, lot in enumerate(lots):
                row = tuple(rows[1 if dial in lot else 0][dial] for dial in range(4))
                self.assertEqual(made[1][first + place], (row, here))
                names[lot] = first + place
            for lot, other in itertools.product(names, names):
                goes = set(lot) < set(other) and len(other) == len(lot) + 1
                self.assertEqual((names[lot], names[other]) in made[2], goes)
        self.assertEqual(len(made[2]), 24)

    def test_turning_tie_by_tie(self):
        rows = ((0, 0), (1, 1), (0, 0))
        made = turning_by(ROW, (2, 2), rows)
        self.is_machine(made)
        self.assertEqual([stage for _, stage in made[1]], [0, 1, 2, 0, 0, 1, 1, 1, 1, 2, 2])
        self.assertEqual([row for row, _ in made[1][3:7]], [(1, 0), (0, 1), (0, 1), (1, 0)])
        self.assertEqual([row for row, _ in made[1][7:]], [(0, 1), (1, 0), (1, 0), (0, 1)])
        self.assertEqual([move for move in made[2] if 9 in move], [(2, 9), (9, 1)])

    def test_stepping_back(self):
        rows = ((0, 0), (0, 1), (1, 1), (1, 0))
        self.gives((*BOTH, tuple((spot, spot + 1) for spot in range(3))), stepping_back, (2, 2), rows, 0)
        places = [(0, 0), (1, 0), (1, 1), (2, 0), (2, 1), (2, 2), (3, 0), (3, 1), (3, 2)]
        made = stepping_back((2, 2), rows, 2)
        self.assertEqual(made[1], tuple((rows[far - back], far - back) for far, back in places))
        goes = []
        for here, (far, back) in enumerate(places):
            for there, place in enumerate(places):
                if place in ((far, back - 1), (far, back + 1)) or (back == 0 and place == (far + 1, 0)):
                    goes.append((here, there))
        self.assertEqual(made[2], tuple(goes))
        for steps in (3, 10 ** 69):
            self.assertEqual(len(stepping_back((2, 2), rows, steps)[1]), 10)
        self.gives(((2,), (((1,), 0),), ()), stepping_back, (2,), ((1,),), 5)
        for steps in range(5):
            self.is_machine(stepping_back((2, 2), rows, steps))

    def test_refused_lines(self):
        for rows in (None, (), [], [(0, 0)], ((0, 2),), ((0, 0), (0,)), ((0, 0), None), 0):
            self.refuses("rows", stepping_back, (2, 2), rows, None)
        for steps in (-1, True, False, None, "0", (0,), []):
            self.refuses("steps", stepping_back, (2, 2), ((0, 0),), steps)

    def test_weakened(self):
        self.gives(((2, 2), (*TWO[1], *TWO[1][:2], *TWO[1][1:]), (
            (0, 3), (1, 5), (3, 4), (4, 1), (4, 3), (5, 6), (6, 2), (6, 5))), weakened, MT)
        self.gives(machine_of(STILL), weakened, machine_of(STILL))
        still = ((2,), (((0,), 0), ((0,), 1)), ((0, 1), (1, 0)))
        self.gives(((2,), (((0,), 0), ((0,), 1), ((0,), 0), ((0,), 1), ((0,), 1), ((0,), 0)), (
            (0, 2), (1, 4), (2, 3), (3, 1), (3, 2), (4, 5), (5, 0), (5, 4))), weakened, still)
        for machine in MACHINES:
            turned = [sum(a != b for a, b in zip(machine[1][one][0], machine[1][two][0])) for one, two in machine[2]]
            if any(many > 1 for many in turned):
                self.refuses("machine", weakened, machine)
            else:
                self.is_machine(weakened(machine))
        self.refuses("machine", weakened, RM)

    def test_hundred_moves(self):
        made = weakened(machine_of(counted_life((2,) * 7, 100)))
        self.assertEqual((len(made[1]), len(made[2])), (100 + 2 * 99, 4 * 99))
        self.is_machine(made)

    def test_sixty_rows(self):
        life = counted_life((2,) * 6, 60)
        made = stepping_back(life[0], tuple(row for row, _ in life[1]), 4)
        self.assertEqual(len(made[1]), 290)
        self.is_machine(made)


class Random(Promises):

    def test_random_codes(self):
        for net in (ROW, RING, KITE, POINT):
            for rows in samples(lambda rng: tuple(random_row(rng, (2, 3)) for _ in range(net[0])), 10):
                made = turning_by(net, (2, 3), rows)
                self.is_machine(made)
                self.assertEqual(set(machine_by(net, (2, 3), rows)[1]), set(made[1][:net[0]]))
                for here, there in made[2]:
                    one, other = made[1][here][0], made[1][there][0]
                    self.assertLessEqual(sum(a != b for a, b in zip(one, other)), 1)


if __name__ == "__main__":
    unittest.main()
