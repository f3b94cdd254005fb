"""[21], [22]: lives as objects."""

import unittest

from stoodthen.lifechanges import cut_life, turned_back
from stoodthen.lifeclasses import Life
from stoodthen.lives import is_lean, stages_many
from tests.samples import BOTH, HUGE, KEPT, ODD, STILL, TWO, Promises, random_lean_life, random_life, samples

LIVES = samples(random_life, 40) + samples(random_lean_life, 20)


class Lives(Promises):

    def test_made(self):
        for life in (TWO, BOTH, STILL, KEPT, (HUGE, (((7,), 0),)), *LIVES):
            made = Life(*life)
            self.gives(life, made.told)
            self.assertEqual(len(made), len(life[1]))
            self.gives(is_lean(life), made.lean)
            self.gives(stages_many(life), made.stages)
            for moment, (_, stage) in enumerate(life[1]):
                self.gives(stage, made.stage, moment)

    def test_not_made(self):
        for dials in ODD:
            if dials != (0, 10 ** 69):
                self.refuses("dials", Life, dials, None)
        for spots in (*ODD, (((0, 0), 1),), (((0, 2), 0),), (((0, 0), True),), list(TWO[1]), TWO):
            self.refuses("spots", Life, (2, 2), spots)
        self.refuses("dials", Life, (0, 10 ** 69), TWO[1])
        self.assertEqual(Life(dials=TWO[0], spots=TWO[1]).told(), TWO)

    def test_moments_and_many(self):
        life = Life(*KEPT)
        for moment in (6, -1, True, False, None, "0", (0,)):
            self.refuses("moment", life.stage, moment)
        for many in (0, 4, -1, True, None, "1", (1,)):
            self.refuses("many", life.cut, many)
        self.gives(KEPT, life.told)

    def test_changed(self):
        for pair in LIVES:
            life = Life(*pair)
            back = life.back()
            self.assertIs(type(back), Life)
            self.gives(turned_back(pair), back.told)
            self.assertEqual(back.back(), life)
            for many in range(1, stages_many(pair) + 1):
                cut = life.cut(many)
                self.assertIs(type(cut), Life)
                self.gives(cut_life(pair, many), cut.told)
            self.gives(pair, life.told)

    def test_equal(self):
        self.assertIs(Life(*TWO) == Life(*TWO), True)
        self.assertIs(Life(*TWO) != Life(*TWO), False)
        others = [Life(*BOTH), Life((2, 3), TWO[1]), Life(TWO[0], TWO[1][:2]), TWO, list(TWO), None, *ODD]
        for other in others:
            self.assertIs(Life(*TWO) == other, False)
            self.assertIs(other == Life(*TWO), False)
            self.assertIs(Life(*TWO) != other, True)


if __name__ == "__main__":
    unittest.main()
