"""[41]: a tour of dials as an object."""

import unittest

from stoodthen.cutclasses import Cut
from stoodthen.cutpapers import cut_marks
from stoodthen.gaps import gap_bound, nested_form, tight_gap, tour_bound
from tests.samples import (
    BOTH, HUGE, KEPT, MB, ODD, STILL, TWO, WIDE, Promises, random_life, random_tour, samples)


def life_and_tour(rng):
    life = random_life(rng, 8)
    return life, random_tour(rng, life[0], 5)


class Cuts(Promises):

    def test_as_the_functions(self):
        for life, tour in samples(life_and_tour, 60):
            dials = life[0]
            cut = Cut(dials, tour)
            self.gives(len(tour) + 1, cut.gaps)
            self.gives(tour_bound(dials, tour), cut.least)
            self.gives(tight_gap(dials, tour), cut.tight)
            self.gives(nested_form(dials, tour), cut.nested)
            for gap in range(len(tour) + 1):
                self.gives(gap_bound(dials, tour, gap), cut.bound, gap)
                self.gives(cut_marks(life, tour, gap), cut.marks, life, gap)

    def test_edges(self):
        cut = Cut((2, 2), ())
        self.gives(1, cut.gaps)
        self.gives(1, cut.least)
        self.gives(0, cut.tight)
        self.gives(((), ()), cut.nested)
        self.gives(("first", "clash", "clash"), cut.marks, TWO, 0)
        wide = Cut(WIDE, tuple(range(199)))
        self.gives(200, wide.gaps)
        self.gives(2 ** 99 + 2 ** 100 - 1, wide.least)
        self.gives(99, wide.tight)
        self.gives(10 ** 60, Cut(HUGE, (0,) * 400).least)

    def test_not_made(self):
        for dials in (*[thing for thing in ODD if thing != (0, 10 ** 69)], (1,), (2, 1), [2], (True, 2)):
            self.refuses("dials", Cut, dials, None)
        for tour in (None, 0, "", [], [0], (2,), (-1,), (True,), (0, None), ((0,),)):
            self.refuses("tour", Cut, (2, 2), tour)

    def test_refused(self):
        cut = Cut((2, 2), (0, 1))
        for gap in (None, 3, -1, True, "0", (0,), 10 ** 69):
            self.refuses("gap", cut.bound, gap)
            self.refuses("gap", cut.marks, BOTH, gap)
        for life in (*ODD, KEPT, STILL, MB, list(BOTH), ((2, 2), ()), ((2, 2), (((0, 0), 1),)), ((2, 3), BOTH[1])):
            self.refuses("life", cut.marks, life, None)

    def test_equal(self):
        one = Cut((2, 3), (0, 1))
        self.assertIs(one == Cut((2, 3), (0, 1)), True)
        self.assertIs(one != Cut(dials=(2, 3), tour=(0, 1)), False)
        for other in (Cut((2, 3), (1, 0)), Cut((3, 2), (0, 1)), Cut((2, 3), ()), Cut((2, 3, 2), (0, 1)),
                      ((2, 3), (0, 1)), None, 0, *ODD):
            self.assertIs(one == other, False)
            self.assertIs(other == one, False)
            self.assertIs(one != other, True)


if __name__ == "__main__":
    unittest.main()
