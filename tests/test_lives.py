"""[4], [15], [16], [22]: lives, their checker, and other lives made of them."""

import itertools
import unittest

from stoodthen.lifechanges import cut_life, kept_life, renamed_life, reordered_life, turned_back
from stoodthen.lifechecker import lets_life
from stoodthen.lives import first_moments, is_lean, life_of, stage_at, stages_many, turns_of
from tests.samples import (
    BOTH, HUGE, KEPT, ODD, STILL, TWO, WIDE, Promises, counted_life, random_lean_life, random_life, samples)

LIVES = samples(random_life, 60)
LEAN = samples(random_lean_life, 60)


def spots(*stages, row=(0, 0)):
    return ((2, 2), tuple((row, stage) for stage in stages))


class Checker(Promises):

    def test_lives(self):
        for life, many in ((TWO, 3), (BOTH, 4), (STILL, 1), (KEPT, 3), (spots(0, 0, 0), 1), (spots(0, 1, 1, 2), 3)):
            self.gives(many, lets_life, life)
        for life in LIVES + LEAN:
            self.gives(life[1][-1][1] + 1, lets_life, life)

    def test_limits_do_not_count(self):
        self.gives(1, lets_life, (WIDE, (((0,) * 199, 0),)))
        self.gives(1, lets_life, (HUGE, (((10 ** 60 - 1,), 0),)))
        self.gives(1250, lets_life, spots(*range(1250)))

    def test_shape(self):
        for thing in (*ODD, TWO + (0,), TWO[:1], list(TWO), (TWO,)):
            if thing not in (((2, 2), (((0, 0), True),)), (False, False), ("tell", 0), (0, 10 ** 69)):
                self.rejects("shape", -1, lets_life, thing)

    def test_dials(self):
        for dials in (None, (), (1,), (2, True), [2, 2], 0, "22", (2, -2)):
            self.rejects("dials", -1, lets_life, (dials, TWO[1]))
            self.rejects("dials", -1, lets_life, (dials, ()))

    def test_spots(self):
        for thing in ((), None, [], list(TWO[1]), 0, "", True):
            self.rejects("spots", -1, lets_life, ((2, 2), thing))

    def test_each_spot(self):
        good = ((0, 0), 0)
        for place in range(3):
            ahead = tuple(((0, 0), stage) for stage in range(place))
            for spot in (None, (), ((0, 0),), ((0, 0), place, 0), [(0, 0), place], 0, ""):
                self.rejects("shape", place, lets_life, ((2, 2), (*ahead, spot, good)))
            for row in (None, (0,), (0, 0, 0), (0, 2), (True, 0), [0, 0], (0, -1)):
                self.rejects("row", place, lets_life, ((2, 2), (*ahead, (row, place), good)))
                self.rejects("row", place, lets_life, ((2, 2), (*ahead, (row, None), None)))
            for stage in (None, -1, True, False, place + 1, place - 2, "0", (0,), [0], 10 ** 69):
                self.rejects("stage", place, lets_life, ((2, 2), (*ahead, ((0, 0), stage), None)))
        self.rejects("stage", 2, lets_life, spots(0, 1, 0))
        self.rejects("stage", 2, lets_life, spots(0, 0, 2))
        self.rejects("stage", 1, lets_life, spots(0, True))
        self.rejects("stage", 0, lets_life, spots(1))

    def test_one_spot_after_the_other(self):
        self.rejects("stage", 0, lets_life, ((2, 2), (((0, 0), 1), None)))
        self.rejects("row", 0, lets_life, ((2, 2), ((None, 0), None)))
        self.rejects("shape", 0, lets_life, ((2, 2), (None, ((0, 0), 5))))


class Telling(Promises):

    def test_life_of(self):
        rows = ((0, 0), (0, 1), (1, 1), (1, 0))
        self.gives(BOTH, life_of, (2, 2), rows)
        self.gives(((3,), (((2,), 0),)), life_of, (3,), ((2,),))
        self.gives(((3,), (((2,), 0), ((2,), 1))), life_of, (3,), ((2,), (2,)))
        for rows in (None, (), [], [(0, 0)], ((0, 0), (0, 2)), ((0, 0), None), ((0,),), (0, 0), (([0, 0]),)):
            self.refuses("rows", life_of, (2, 2), rows)

    def test_stages(self):
        for life in (TWO, BOTH, STILL, KEPT, *LIVES):
            self.gives(len({stage for _, stage in life[1]}), stages_many, life)
            for moment, (_, stage) in enumerate(life[1]):
                self.gives(stage, stage_at, life, moment)
            for moment in (len(life[1]), -1, True, False, None, "0", (0,), 10 ** 69):
                self.refuses("moment", stage_at, life, moment)

    def test_lean(self):
        for life in (TWO, BOTH, STILL, *LEAN):
            self.gives(True, is_lean, life)
        self.gives(False, is_lean, KEPT)
        self.gives(False, is_lean, spots(0, 1))
        self.gives(False, is_lean, ((2, 2), (((0, 0), 0), ((1, 1), 1))))
        self.gives(False, is_lean, ((2, 2), (((0, 0), 0), ((0, 1), 0))))
        self.gives(False, is_lean, ((2, 2), (((0, 0), 0), ((0, 1), 1), ((0, 1), 2))))
        for life in LIVES:
            lean = all(stage == place for place, (_, stage) in enumerate(life[1]))
            for (row, _), (other, _) in zip(life[1], life[1][1:]):
                lean = lean and sum(one != two for one, two in zip(row, other)) == 1
            self.gives(lean, is_lean, life)

    def test_first_moments(self):
        self.gives((0, 2, 4), first_moments, KEPT)
        self.gives((0,), first_moments, STILL)
        for life in LIVES:
            stages = [stage for _, stage in life[1]]
            self.gives(tuple(stages.index(stage) for stage in sorted(set(stages))), first_moments, life)

    def test_turns(self):
        self.gives(1, turns_of, BOTH, 0)
        self.gives(2, turns_of, BOTH, 1)
        self.gives(2, turns_of, KEPT, 0)
        self.gives(3, turns_of, KEPT, 1)
        self.gives(0, turns_of, STILL, 0)
        for dial in (2, -1, True, False, None, "0", (0,)):
            self.refuses("dial", turns_of, BOTH, dial)


class Changes(Promises):

    def test_turned_back(self):
        self.gives(((2, 2), (((1, 1), 0), ((1, 0), 1), ((0, 0), 2))), turned_back, TWO)
        self.gives(STILL, turned_back, STILL)
        for life in LIVES:
            last = max(stage for _, stage in life[1])
            expected = tuple((row, last - stage) for row, stage in reversed(life[1]))
            self.gives((life[0], expected), turned_back, life)
            self.gives(life, turned_back, turned_back(life))
            self.is_life(turned_back(life))

    def test_renamed(self):
        names = ((1, 0), (0, 1))
        self.gives(((2, 2), (((1, 0), 0), ((0, 0), 1), ((0, 1), 2))), renamed_life, TWO, names)
        self.gives(((3,), (((0,), 0),)), renamed_life, STILL, ((1, 2, 0),))
        for wrong in (None, (), names[:1], (*names, (0, 1)), ((1, 1), (0, 1)), ((True, False), (0, 1)), list(names)):
            self.refuses("names", renamed_life, TWO, wrong)

    def test_reordered(self):
        self.gives(((3, 2), (((0, 0), 0), ((2, 0), 0), ((2, 1), 1), ((2, 1), 1), ((1, 0), 2), ((0, 0), 2))),
                   reordered_life, KEPT, (1, 0))
        for life in LIVES:
            for order in itertools.permutations(range(len(life[0]))):
                changed = reordered_life(life, order)
                self.is_life(changed)
                for dial, old in enumerate(order):
                    self.assertEqual(changed[0][dial], life[0][old])
                    for (row, stage), (before, same) in zip(changed[1], life[1]):
                        self.assertEqual((row[dial], stage), (before[old], same))
        for order in (None, (), (0,), (0, 0), (0, 1, 2), (1, 2), (0, True), (False, True), [1, 0], 0, (-1, 0)):
            self.refuses("order", reordered_life, KEPT, order)

    def test_three_dials_in_another_order(self):
        life = ((2, 3, 4), (((1, 2, 3), 0),))
        self.gives(((4, 2, 3), (((3, 1, 2), 0),)), reordered_life, life, (2, 0, 1))

    def test_cut(self):
        self.gives((KEPT[0], KEPT[1][:2]), cut_life, KEPT, 1)
        self.gives((KEPT[0], KEPT[1][:4]), cut_life, KEPT, 2)
        self.gives(KEPT, cut_life, KEPT, 3)
        self.gives(STILL, cut_life, STILL, 1)
        for many in (0, 4, -1, True, None, "1", (1,), 10 ** 69):
            self.refuses("many", cut_life, KEPT, many)
        self.refuses("many", cut_life, STILL, True)

    def test_kept(self):
        self.gives(TWO, kept_life, TWO, 1)
        self.gives(((3,), (((2,), 0), ((2,), 1), ((2,), 2))), kept_life, STILL, 3)
        for life in (TWO, *LEAN):
            for times in (1, 2, 9):
                rows = [row for row, _ in life[1] for _ in range(times)]
                self.gives((life[0], tuple(zip(rows, range(len(rows))))), kept_life, life, times)
        for times in (0, -1, True, None, "1", (1,), []):
            self.refuses("times", kept_life, TWO, times)
        for life in (KEPT, spots(0, 1), spots(0, 0)):
            self.refuses("life", kept_life, life, 1)
            self.refuses("life", kept_life, life, None)

    def test_lean_stays_lean(self):
        for life in LEAN:
            names = tuple(tuple(reversed(range(size))) for size in life[0])
            order = tuple(reversed(range(len(life[0]))))
            for changed in (turned_back(life), renamed_life(life, names), reordered_life(life, order)):
                self.is_life(changed)
                self.gives(True, is_lean, changed)

    def test_four_hundred_spots(self):
        life = counted_life((2,) * 9, 400)
        self.gives(400, lets_life, life)
        self.gives(True, is_lean, life)
        self.gives(life, turned_back, turned_back(life))


if __name__ == "__main__":
    unittest.main()
