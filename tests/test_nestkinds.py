"""[39], [42]: nests, their dials and tours, and nests among other dials."""

import itertools
import unittest

from stoodthen.gaps import nested_form, tour_bound
from stoodthen.nestkinds import is_nest, nest_by, nest_dials, nest_held, nest_tour, placed_row
from tests import plain
from tests.samples import HUGE, ODD, SMALL_NESTS, WIDE, WIDE_NESTS, Promises, random_row, samples

DIALS = (2, 3, 2, 4)
# What is no tuple of dials of DIALS without a dial twice.
BAD_PLACES = (None, True, 0, "", [], [0], (4,), (-1,), (True,), (0, None), ((0,),), (0, 0), (1, 2, 1), ("0",))


class Kinds(Promises):

    def test_nests(self):
        for nest in (*SMALL_NESTS, *WIDE_NESTS, ((), (2,)), ((2,), ()), ((10 ** 69,), (10 ** 69,))):
            self.gives(True, is_nest, nest)

    def test_others(self):
        for thing in ODD:
            self.gives(False, is_nest, thing)
        for part in (None, [], [2], (1,), (0,), (-2,), (True,), (2, None), ((2,),), "22", (2, 1), ("2",), 2, ([],)):
            self.gives(False, is_nest, (part, (2,)))
            self.gives(False, is_nest, ((2,), part))
        for thing in (((), ()), ((2,),), ((2,), (2,), (2,)), [(2,), (2,)], ((2,), (2,), ()), ((), (), ())):
            self.gives(False, is_nest, thing)


class Dials(Promises):

    def test_examples(self):
        self.gives((0, 1, 2, 0), nest_tour, ((2,), (3, 2)))
        self.gives(8, nest_held, ((2,), (3, 2)))
        self.gives((1, 2, 0, 0), placed_row, DIALS, (1,), (0,), (2, 1))

    def test_beside_the_definition(self):
        for nest in SMALL_NESTS:
            outer, inner = nest
            self.gives(outer + inner, nest_dials, nest)
            self.gives(plain.nest_tour(nest), nest_tour, nest)
            self.gives(plain.product(outer) * plain.least_cut(inner), nest_held, nest)

    def test_held_is_the_bound_of_the_tour(self):
        for nest in SMALL_NESTS:
            self.gives(nest_held(nest), tour_bound, nest_dials(nest), nest_tour(nest))
            outer, inner = nested_form(nest_dials(nest), nest_tour(nest))
            if nest[1]:
                self.assertEqual(nest_by(nest_dials(nest), outer, inner), nest)
        for nest in WIDE_NESTS[:5]:
            self.gives(nest_held(nest), tour_bound, nest_dials(nest), nest_tour(nest))

    def test_edges(self):
        self.gives((0, 0), nest_tour, ((2,), ()))
        self.gives((0,), nest_tour, ((), (2,)))
        self.gives((0, 1, 1, 0), nest_tour, ((2, 3), ()))
        self.gives(6, nest_held, ((2, 3), ()))
        self.gives(4, nest_held, ((), (2, 3)))

    def test_wide(self):
        self.gives(2 ** 199, nest_held, (WIDE, ()))
        self.gives(2 ** 99 + 2 ** 100 - 1, nest_held, ((), WIDE))
        self.gives((*range(199), *range(198, -1, -1)), nest_tour, (WIDE, ()))
        self.gives(tuple(range(199)), nest_tour, ((), WIDE))
        self.gives((*range(199), *range(99, -1, -1)), nest_tour, ((2,) * 100, (2,) * 99))
        self.gives(10 ** 60, nest_held, ((), HUGE))
        self.gives(10 ** 30 * (10 ** 10 + 10 ** 20 - 1), nest_held, ((10 ** 30,), (10 ** 10,) * 3))
        for nest in WIDE_NESTS:
            self.gives(nest[0] + nest[1], nest_dials, nest)


class Places(Promises):

    def test_all_places_of_four_dials(self):
        lots = [lot for many in range(5) for lot in itertools.permutations(range(4), many)]
        for outer, inner in itertools.product(lots, repeat=2):
            if not outer + inner or set(outer) & set(inner):
                self.refuses("inner", nest_by, DIALS, outer, inner)
                self.refuses("inner", placed_row, DIALS, outer, inner, None)
                continue
            nest = (tuple(DIALS[dial] for dial in outer), tuple(DIALS[dial] for dial in inner))
            self.gives(nest, nest_by, DIALS, outer, inner)
            for row in samples(random_row, 3, nest_dials(nest)):
                placed = [0, 0, 0, 0]
                for dial, value in zip(outer + inner, row):
                    placed[dial] = value
                self.gives(tuple(placed), placed_row, DIALS, outer, inner, row)

    def test_wide(self):
        places = tuple(range(198, -1, -1))
        self.gives(((), WIDE), nest_by, WIDE, (), places)
        self.gives(((2,) * 199, ()), nest_by, WIDE, places, ())
        row = (1,) + (0,) * 198
        self.gives(row[::-1], placed_row, WIDE, places, (), row)
        self.gives(((10 ** 60,), ()), nest_by, HUGE, (0,), ())
        self.gives((0,) * 150 + (1,) + (0,) * 48, placed_row, WIDE, (7,), (150,), (0, 1))

    def test_refused(self):
        for wrong in BAD_PLACES:
            self.refuses("outer", nest_by, DIALS, wrong, wrong)
            self.refuses("outer", placed_row, DIALS, wrong, wrong, None)
            self.refuses("inner", nest_by, DIALS, (3,), wrong)
            self.refuses("inner", placed_row, DIALS, (3,), wrong, None)
        for row in (None, (), (2,), (2, 1, 0), (3, 0), (0, 2), (-1, 0), (True, 0), [2, 1], "21", (2, None)):
            self.refuses("row", placed_row, DIALS, (1,), (0,), row)


if __name__ == "__main__":
    unittest.main()
