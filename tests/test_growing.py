"""[83], [92], (G14): nests that grow, and nets on which another net is hung."""

import random
import unittest

from stoodthen.growing import grown_nest, hung_holding, old_gate, old_view
from stoodthen.heldrows import passed_row, rows_at
from stoodthen.holdkinds import is_holding
from stoodthen.nestkinds import nest_held, nest_tour
from stoodthen.nestrows import row_at
from stoodthen.nets import line_net
from stoodthen.sinks import held_told
from stoodthen.toldanswers import told_stage
from stoodthen.undoclasses import Undo
from tests import plain, plainnets
from tests.heldsamples import BOTH_SHARED, HELD, TIED
from tests.samples import NEST, RING, ROW, SMALL_NESTS, WIDE, WIDE_NESTS, Promises

HUNG = [(held, stage, other) for held in HELD[::3] for other in HELD[2::4]
        for stage in sorted({0, held[0][0] - 1}) if held[0][0] + other[0][0] <= 9 and len(held[1] + other[1]) <= 7]


class Nests(Promises):

    def test_grown(self):
        self.gives(((3, 2), (2,)), grown_nest, NEST, 3)
        self.gives(((2,), (2, 2)), grown_nest, ((), (2, 2)), 2)
        self.gives(((5, 2), ()), grown_nest, ((2,), ()), 5)
        self.gives(((2, *WIDE), ()), grown_nest, (WIDE, ()), 2)
        self.gives(((10 ** 60, 10 ** 60), ()), grown_nest, ((10 ** 60,), ()), 10 ** 60)

    def test_old_stages_have_the_old_rows_behind_a_0(self):
        for nest in SMALL_NESTS:
            for size in (2, 5):
                new = grown_nest(nest, size)
                for stage in range(nest_held(nest)):
                    self.gives((0, *row_at(nest, stage)), row_at, new, stage)
        for nest in WIDE_NESTS:
            for stage in (0, 1, nest_held(nest) // 2, nest_held(nest) - 1):
                self.gives((0, *row_at(nest, stage)), row_at, grown_nest(nest, 7), stage)

    def test_old_view(self):
        self.gives((1, 0, 1), old_view, ((3,), (2, 2, 2)), 1, (2, 1, 0, 1, 0))
        self.gives((2, 1, 0, 1, 0), old_view, ((3,), (2, 2, 2)), 0, (2, 1, 0, 1, 0))
        self.gives((1, 0, 0, 1), old_view, ((3, 2, 2), ()), 1, (2, 1, 0, 0, 1, 1))
        self.gives((0, 0), old_view, ((3, 2, 2), ()), 2, (2, 1, 0, 0, 1, 1))
        self.gives((0,), old_view, ((3, 2), (2,)), 2, (2, 1, 0, 0, 1))
        self.gives((1,) * 200, old_view, ((2,) * 199, ()), 99, (0,) * 99 + (1,) * 200 + (0,) * 99)
        self.gives((0,) * 99, old_view, ((2,) * 100, (2,) * 99), 100, (1,) * 100 + (0,) * 99 + (1,) * 100)

    def test_old_views_are_of_the_old_nests(self):
        for nest in SMALL_NESTS:
            new = grown_nest(grown_nest(nest, 3), 2)
            for stage in range(0, nest_held(nest), 3):
                row = row_at(new, stage)
                view = tuple(row[dial] for dial in nest_tour(new))
                for times, older in ((0, new), (1, grown_nest(nest, 3)), (2, nest)):
                    self.gives(stage, told_stage, older, old_view(new, times, view))

    def test_refused(self):
        for wrong in (None, True, 0, 1, -1, "2", (), [2]):
            self.refuses("size", grown_nest, NEST, wrong)
        for nest, view in ((((3, 2), (2,)), (2, 1, 0, 0, 1)), (((3, 2, 2), ()), (2, 1, 0, 0, 1, 1))):
            for wrong in (None, True, -1, 3, 10 ** 69, "1", ()):
                self.refuses("times", old_view, nest, wrong, view)
                self.refuses("times", old_view, nest, wrong, None)
        self.refuses("times", old_view, ((2,), ()), 1, (0, 0))
        self.refuses("times", old_view, ((), (2,)), 1, (0,))
        for wrong in (None, True, 0, (), (0, 0), (0, 0, 0, 0), (0, 2, 0), (0, True, 0), [0, 0, 0], "000"):
            self.refuses("view", old_view, NEST, 1, wrong)


class Gates(Promises):

    def test_gates(self):
        for size in (1, 2, 5, 12, 10 ** 30):
            for at in {0, size // 2, size - 1}:
                for stage in {0, size - 1, size, size + 1, 10 ** 69}:
                    self.gives(stage if stage < size else at, old_gate, size, at, stage)

    def test_gates_of_hung_stages(self):
        for held, stage, other in HUNG[::5]:
            whole = hung_holding(*held, stage, *other)[0]
            for number in range(whole[0]):
                far = [len(way) for way in plainnets.simple_ways(whole, (number,), stage)]
                self.assertTrue(far)
                gate = old_gate(held[0][0], stage, number)
                ways = plainnets.simple_ways(whole, (number,), 0)
                first = {[at for at in way if at < held[0][0]][0] for way in ways}
                self.assertEqual(first, {gate})

    def test_refused(self):
        for wrong in (None, True, 0, -1, "3", (), [3]):
            self.refuses("size", old_gate, wrong, 0, 0)
            self.refuses("size", old_gate, wrong, None, None)
        for wrong in (None, True, -1, 3, "0", ()):
            self.refuses("at", old_gate, 3, wrong, 0)
            self.refuses("at", old_gate, 3, wrong, None)
        for wrong in (None, True, -1, "0", (), [0]):
            self.refuses("stage", old_gate, 3, 2, wrong)


class Hung(Promises):

    def test_beside_undo(self):
        self.assertGreater(len(HUNG), 60)
        for held, stage, other in HUNG:
            whole = hung_holding(*held, stage, *other)
            self.gives(True, is_holding, *whole)
            self.assertEqual(Undo(*held).hung(stage, *other), Undo(*whole))
            self.assertEqual(whole[1], held[1] + other[1])
            old = dict(zip(plain.blocks_of(held[0]), held[2]))
            for lot, entry in zip(plain.blocks_of(whole[0]), whole[2]):
                if lot in old:
                    self.assertEqual(entry, old[lot])
                else:
                    places = (entry[1],) if entry[0] == "dial" else entry[1]
                    self.assertTrue(min(places) >= len(held[1]))

    def test_works_go_on(self):
        """The old rows, with noughts behind, are rows of the whole at the old stages, and go on as before."""
        for held, stage, other in HUNG[::6]:
            whole = hung_holding(*held, stage, *other)
            noughts = (0,) * len(other[1])
            for place in range(held[0][0]):
                for row in rows_at(*held, place):
                    self.assertIn(row + noughts, rows_at(*whole, place))
                    for there in range(held[0][0]):
                        if plainnets.tied(held[0], place, there):
                            behind = passed_row(*held, row, place, there) + noughts
                            self.gives(behind, passed_row, *whole, row + noughts, place, there)

    def test_who_looks_at_the_old_dials_tells_old_gates(self):
        rng = random.Random(83)
        for held, stage, other in HUNG[::5]:
            whole = hung_holding(*held, stage, *other)
            at, row = 0, (0,) * len(whole[1])
            met, shown = [], []
            for _ in range(20):
                self.gives(old_gate(held[0][0], stage, at), held_told, *held, row[:len(held[1])])
                met.append(old_gate(held[0][0], stage, at))
                shown.append(row[:len(held[1])])
                there = rng.choice([near for near in range(whole[0][0]) if plainnets.tied(whole[0], at, near)] or [at])
                if there != at:
                    at, row = there, passed_row(*whole, row, at, there)
            for _ in range(6):
                moments = sorted(rng.randrange(20) for _ in held[1])
                seen = dict(zip(rng.sample(range(len(held[1])), len(held[1])), moments))
                view = tuple(shown[seen[dial]][dial] for dial in range(len(held[1])))
                self.assertIn(held_told(*held, view), met[moments[0]:moments[-1] + 1])

    def test_twelve_stages(self):
        line = line_net(6)
        holding = (("dial", 0),) * 5
        whole = hung_holding(line, (6,), holding, 3, line_net(7), (7,), (("dial", 0),) * 6)
        self.assertEqual((whole[0][0], whole[1]), (12, (6, 7)))
        self.assertEqual([entry[1] for entry in whole[2]], [0, 0, 0, 0, 1, 0] + [1] * 5)
        self.gives(((3, 6),), rows_at, *whole, 11)

    def test_refused(self):
        good = (ROW, (3,), BOTH_SHARED, 2, RING, (2, 2, 2), TIED)
        names = ("dials", "holding", "stage", "other", "more", "held")
        for place, name in enumerate(names, 1):
            for wrong in (None, True, 0 if name != "stage" else 3, "", [], -1, (), (1,), ((),)):
                thing = [*good[:place], wrong, *good[place + 1:]]
                self.refuses(name, hung_holding, *thing)
                self.refuses(name, hung_holding, *thing[:place + 1], *[None for _ in good[place + 1:]])


if __name__ == "__main__":
    unittest.main()
