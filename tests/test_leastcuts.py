"""[7], [35], [36], [42]: cuts of sizes, the least one, and the sequences in which it is greatest."""

import itertools
import unittest

from stoodthen.gaps import nested_form, tour_bound
from stoodthen.leastcuts import cut_gap, cuts_of, least_cut
from stoodthen.orders import best_cut, best_order, middle_of
from tests import plain
from tests.samples import HUGE, WIDE, Promises, samples, tuples_of

SIZES = tuples_of((2, 3, 5), 4) + [(4, 4), (12,) * 8, (2, 12, 2, 12), (7, 2, 3, 2, 2), (2, 3, 4, 5, 6, 7)]


def random_sizes(rng):
    return tuple(rng.choice((2, 3, 4, 7, 12)) for _ in range(rng.randint(1, 6)))


class Cuts(Promises):

    def test_examples(self):
        self.gives((7, 6), cuts_of, (2, 2, 3))
        self.gives(6, least_cut, (2, 2, 3))
        self.gives(2, cut_gap, (2, 2, 3))

    def test_beside_the_definition(self):
        for sizes in SIZES:
            self.gives(plain.least_cut(sizes), least_cut, sizes)
            if len(sizes) > 1:
                cuts = plain.cuts_of(sizes)
                self.gives(cuts, cuts_of, sizes)
                self.gives(min(h for h in range(1, len(sizes)) if cuts[h - 1] == min(cuts)), cut_gap, sizes)

    def test_few_sizes(self):
        self.gives(1, least_cut, ())
        self.gives(7, least_cut, (7,))
        self.gives(10 ** 60, least_cut, HUGE)
        for sizes in ((), (2,), HUGE):
            self.refuses("sizes", cuts_of, sizes)
            self.refuses("sizes", cut_gap, sizes)

    def test_first_of_several_gaps(self):
        self.gives((5, 5), cuts_of, (2, 2, 2))
        self.gives(1, cut_gap, (2, 2, 2))
        self.gives(3, cut_gap, (3, 2, 2, 2, 2, 3))
        self.gives((50, 29, 29, 50), cuts_of, (3, 2, 4, 2, 3))
        self.gives(2, cut_gap, (3, 2, 4, 2, 3))

    def test_wide(self):
        self.gives(2 ** 99 + 2 ** 100 - 1, least_cut, WIDE)
        self.gives(99, cut_gap, WIDE)
        self.gives(tuple(2 ** h + 2 ** (199 - h) - 1 for h in range(1, 199)), cuts_of, WIDE)
        self.gives((5 * 10 ** 59 + 1,), cuts_of, (2, 5 * 10 ** 59))

    def test_as_the_bound_of_the_tour(self):
        for sizes in SIZES:
            if sizes:
                self.gives(plain.least_cut(sizes), tour_bound, sizes, tuple(range(len(sizes))))

    def test_nested_forms_hold_the_bound(self):
        dials = (2, 3, 4)
        for tour in tuples_of(range(3), 5):
            form = nested_form(dials, tour)
            if form is not None:
                outer, inner = [tuple(dials[dial] for dial in lot) for lot in form]
                self.gives(plain.product(outer) * least_cut(inner), tour_bound, dials, tour)


class Orders(Promises):

    def test_examples(self):
        self.gives((1, 2, 3), middle_of, (2, 2, 3))
        self.gives(7, best_cut, (2, 2, 3))

    def test_middle_beside_the_definition(self):
        for sizes in SIZES:
            if not sizes:
                continue
            places = [place for place in range(len(sizes))
                      if plain.product(sizes[:place + 1]) ** 2 >= plain.product(sizes)]
            place = places[0]
            self.gives((place, plain.product(sizes[:place]), plain.product(sizes[place + 1:])), middle_of, sizes)

    def test_least_cut_by_the_middle(self):
        for sizes in SIZES + [WIDE, HUGE, (3,) * 125, (10 ** 20,) * 3, (10 ** 30, 10 ** 30), (2, 5 * 10 ** 59)]:
            if sizes:
                place, ahead, behind = middle_of(sizes)
                size = sizes[place]
                self.gives(min(ahead + size * behind, size * ahead + behind) - 1, least_cut, sizes)

    def test_middle_of_wide_sizes(self):
        self.gives((99, 2 ** 99, 2 ** 99), middle_of, WIDE)
        self.gives((0, 1, 1), middle_of, HUGE)
        self.gives((0, 1, 10 ** 30), middle_of, (10 ** 30, 10 ** 30))
        self.gives((1, 10 ** 30, 1), middle_of, (10 ** 30, 10 ** 30 + 1))
        self.gives((0, 1, 10 ** 30), middle_of, (10 ** 30 + 1, 10 ** 30))

    def test_best_beside_all_sequences(self):
        for sizes in [*SIZES[1:121], *samples(random_sizes, 40)]:
            best = plain.best_cut(sizes)
            self.gives(best, best_cut, sizes)
            order = best_order(sizes)
            self.assertIs(type(order), tuple)
            self.assertEqual(sorted(order), list(range(len(sizes))))
            self.assertTrue(all(type(place) is int for place in order))
            self.assertEqual(plain.least_cut([sizes[place] for place in order]), best)

    def test_sequence_of_the_sizes_does_not_matter(self):
        for sizes in itertools.permutations((2, 3, 5, 7)):
            self.gives(best_cut((2, 3, 5, 7)), best_cut, sizes)

    def test_edges(self):
        self.gives((0,), best_order, (2,))
        self.gives(12, best_cut, (12,))
        self.gives(plain.least_cut((2,) * 6), best_cut, (2,) * 6)
        self.gives(10 ** 60, best_cut, HUGE)
        for function in (middle_of, best_cut, best_order):
            self.refuses("sizes", function, ())

    def test_most_sizes(self):
        self.gives(plain.best_cut((2, 3, 4, 5, 6, 7)), best_cut, (2, 3, 4, 5, 6, 7))
        sizes = (7, 10 ** 12, 3, 10 ** 20, 2, 11)
        self.gives(plain.best_cut(sizes), best_cut, sizes)


if __name__ == "__main__":
    unittest.main()
