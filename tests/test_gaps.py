"""[7], [33], [34], [42], (G3): gaps of tours, and the marks of a life's stages at them."""

import itertools
import unittest

from stoodthen.cutpapers import clash_at, cut_marks, kept_moments, lets_cut
from stoodthen.gaps import gap_bound, gap_dials, gap_products, nested_form, tight_gap, tour_bound
from stoodthen.lives import first_moments, stages_many
from stoodthen.machines import machine_of
from stoodthen.rightstages import is_safe
from stoodthen.twolooks import lets_two_looks
from tests import plain
from tests.samples import (
    BOTH, HUGE, KEPT, STILL, TWO, WIDE, Promises, counted_life, random_dials, random_lean_life, random_life,
    random_tour, samples)

DIALS = (2, 3, 2)
BAD_TOURS = (None, 0, "", [], [0], (3,), (0, 3), (-1,), (True,), (0, None), ("0",), ((0,),))
TOURS = [tour for many in range(5) for tour in itertools.product(range(3), repeat=many)]


class Gaps(Promises):

    def test_examples(self):
        self.gives(((1,), (2,), (0,)), gap_dials, DIALS, (0, 1, 0, 2), 2)
        self.gives(8, gap_bound, DIALS, (0, 1, 0, 2), 2)
        self.gives(7, tour_bound, DIALS, (0, 1, 0, 2))
        self.gives(((0,), (2, 1)), nested_form, DIALS, (0, 2, 1, 0))

    def test_beside_the_definition(self):
        for tour in TOURS:
            bounds = []
            for gap in range(len(tour) + 1):
                lots = plain.gap_dials(DIALS, tour, gap)
                self.gives(lots, gap_dials, DIALS, tour, gap)
                products = tuple(plain.product([DIALS[dial] for dial in lot]) for lot in lots)
                self.gives(products, gap_products, DIALS, tour, gap)
                bounds.append(products[2] * (products[0] + products[1] - 1))
                self.gives(bounds[-1], gap_bound, DIALS, tour, gap)
            self.gives(min(bounds), tour_bound, DIALS, tour)
            self.gives(bounds.index(min(bounds)), tight_gap, DIALS, tour)

    def test_forms(self):
        for tour in TOURS + list(itertools.product(range(3), repeat=5)):
            forms = []
            for many in range(len(tour) // 2 + 1):
                outer, inner = tour[:many], tour[many:len(tour) - many]
                if tour == outer + inner + outer[::-1] and len(set(outer + inner)) == len(outer + inner):
                    forms.append((outer, inner))
            self.assertLess(len(forms), 2)
            self.gives(forms[0] if forms else None, nested_form, DIALS, tour)

    def test_no_looks(self):
        self.gives(((), (), ()), gap_dials, DIALS, (), 0)
        self.gives((1, 1, 1), gap_products, DIALS, (), 0)
        self.gives(1, gap_bound, DIALS, (), 0)
        self.gives(1, tour_bound, DIALS, ())
        self.gives(0, tight_gap, DIALS, ())
        self.gives(((), ()), nested_form, DIALS, ())

    def test_first_of_several_gaps(self):
        self.gives(1, tight_gap, (2, 2, 2, 2), (0, 1))
        self.gives(3, tour_bound, (2, 2), (0, 1))
        self.gives(0, tight_gap, (2,), (0, 0))
        self.gives(2, tight_gap, (2, 2, 2, 2), (0, 1, 2, 3))
        self.gives(1, tight_gap, (2, 2, 2), (0, 1, 2))

    def test_wide(self):
        tour = tuple(range(199))
        self.gives(2 ** 99 + 2 ** 100 - 1, tour_bound, WIDE, tour)
        self.gives(99, tight_gap, WIDE, tour)
        self.gives(2 ** 198 + 2 - 1, gap_bound, WIDE, tour, 198)
        self.gives(((), tour), nested_form, WIDE, tour)
        there_and_back = tour + tour[::-1]
        self.gives(2 ** 199, tour_bound, WIDE, there_and_back)
        self.gives((tour, ()), nested_form, WIDE, there_and_back)
        self.gives((tour[:198], tour[198:]), nested_form, WIDE, tour + tour[:198][::-1])
        self.gives(None, nested_form, WIDE, (0,) * 400)
        self.gives(10 ** 60, tour_bound, HUGE, (0,) * 400)
        self.gives((10 ** 60, 1, 1), gap_products, HUGE, (0,), 1)
        self.gives(2, tour_bound, WIDE, (5,) * 400)

    def test_refused(self):
        for tour in BAD_TOURS:
            for function in (gap_dials, gap_products, gap_bound):
                self.refuses("tour", function, DIALS, tour, None)
            for function in (tour_bound, tight_gap, nested_form):
                self.refuses("tour", function, DIALS, tour)
        for gap in (3, -1, True, False, None, "0", (0,), 10 ** 69):
            for function in (gap_dials, gap_products, gap_bound):
                self.refuses("gap", function, DIALS, (0, 1), gap)
        self.refuses("gap", gap_dials, DIALS, (), 1)
        self.refuses("gap", gap_dials, DIALS, (0,), True)


def life_tour_gap(rng):
    life = random_life(rng, 8) if rng.random() < 0.5 else random_lean_life(rng, 9)
    tour = random_tour(rng, life[0], 5)
    return life, tour, rng.randrange(len(tour) + 1)


CASES = samples(life_tour_gap, 400)


class Marks(Promises):

    def test_examples(self):
        self.gives(("first", "clash", "new", "gone"), cut_marks, BOTH, (0, 1), 1)
        self.gives(((0, 0), (1, 3)), clash_at, BOTH, (0, 1), 1)

    def test_kept_moments(self):
        self.gives((0, 2, 4), kept_moments, KEPT, (), 0)
        for life, tour, gap in CASES[:60]:
            self.gives(first_moments(life), kept_moments, life, tour, gap)

    def test_beside_the_definition(self):
        words = set()
        for life, tour, gap in CASES:
            marks = plain.cut_marks(life, tour, gap)
            words |= set(marks)
            self.gives(marks, cut_marks, life, tour, gap)
            if "clash" not in marks:
                self.gives(stages_many(life), lets_cut, life, tour, gap, marks)
                self.assertLessEqual(stages_many(life), gap_bound(life[0], tour, gap))
        self.assertEqual(words, {"first", "new", "gone", "clash"})

    def test_no_looks(self):
        self.gives(("first",), cut_marks, STILL, (), 0)
        self.gives(("first", "clash", "clash"), cut_marks, TWO, (), 0)
        self.gives(1, lets_cut, STILL, (), 0, ("first",))

    def test_kept_moment_alone_counts(self):
        life = ((2,), (((0,), 0), ((1,), 0), ((1,), 1), ((0,), 1)))
        self.gives(("first", "new"), cut_marks, life, (0,), 1)
        self.gives(("first", "gone"), cut_marks, life, (0,), 0)

    def test_clashes(self):
        found = 0
        for life, tour, gap in CASES:
            marks = plain.cut_marks(life, tour, gap)
            if tour == ():
                self.refuses("tour", clash_at, life, tour, gap)
            elif "clash" not in marks:
                self.gives(None, clash_at, life, tour, gap)
            else:
                found += 1
                self.gives(self.plain_clash(life, tour, gap, marks), clash_at, life, tour, gap)
                pair = clash_at(life, tour, gap)
                self.gives(plain.life_view(life, tour, pair[0]), lets_two_looks, life, tour, pair)
                self.gives(False, is_safe, machine_of(life), tour)
        self.assertGreater(found, 50)

    def plain_clash(self, life, tour, gap, marks):
        done, unbegun, both = plain.gap_dials(life[0], tour, gap)
        kept = first_moments(life)

        def shows(stage, lot):
            return [life[1][kept[stage]][0][dial] for dial in lot]

        t = marks.index("clash")
        group = [stage for stage in range(len(kept)) if shows(stage, both) == shows(t, both)]
        p = max(stage for stage in group if stage < t)
        s = min(stage for stage in group if shows(stage, done) == shows(t, done))
        u = max(stage for stage in group if shows(stage, unbegun) == shows(p, unbegun))
        behind = len(tour) - gap
        return ((kept[s],) * gap + (kept[p],) * behind, (kept[t],) * gap + (kept[u],) * behind)

    def test_too_many_stages_clash_at_each_gap(self):
        for sizes, tour in (((2, 2), (0, 1)), ((2, 2, 2), (0, 1, 2)), ((2, 3), (1, 0, 1)), ((2, 2, 2), (0, 1, 2, 0))):
            life = counted_life(sizes, plain.product(sizes))
            for gap in range(len(tour) + 1):
                if stages_many(life) > gap_bound(sizes, tour, gap):
                    pair = clash_at(life, tour, gap)
                    self.gives(plain.life_view(life, tour, pair[0]), lets_two_looks, life, tour, pair)

    def test_safe_tours_have_no_clash(self):
        for life, tour, _ in CASES:
            if is_safe(machine_of(life), tour):
                self.assertLessEqual(stages_many(life), tour_bound(life[0], tour))
                for gap in range(len(tour) + 1):
                    self.assertNotIn("clash", cut_marks(life, tour, gap))

    def test_four_hundred_stages(self):
        life = counted_life((2,) * 9, 400)
        tour = tuple(range(9)) + tuple(range(7))
        marks = cut_marks(life, tour, 9)
        self.gives(plain.cut_marks(counted_life((2,) * 9, 60), tour, 9), cut_marks, counted_life((2,) * 9, 60), tour, 9)
        self.assertEqual(len(marks), 400)


class Papers(Promises):

    def test_lets_cut(self):
        marks = cut_marks(TWO, (0, 1), 1)
        self.assertEqual(marks, ("first", "new", "gone"))
        self.gives(3, lets_cut, TWO, (0, 1), 1, marks)
        for thing in (None, (), marks[:2], (*marks, "new"), list(marks), 0, "", "first"):
            self.rejects("shape", -1, lets_cut, TWO, (0, 1), 1, thing)
        for place in range(3):
            for word in ("first", "new", "gone", "clash", "", None, True, 0, (), ("new",), ["new"], "New"):
                if word != marks[place]:
                    paper = (*marks[:place], word, *([None] * (2 - place)))
                    self.rejects("word", place, lets_cut, TWO, (0, 1), 1, paper)

    def test_clash_is_never_let(self):
        marks = cut_marks(BOTH, (0, 1), 1)
        self.rejects("word", 1, lets_cut, BOTH, (0, 1), 1, marks)
        self.rejects("word", 1, lets_cut, BOTH, (0, 1), 1, ("first", "new", "new", "gone"))
        self.rejects("word", 1, lets_cut, TWO, (), 0, ("first", "clash", "clash"))

    def test_refused(self):
        for tour in (None, 0, "", [], [0], (2,), (0, 2), (-1,), (True,)):
            for function in (kept_moments, cut_marks, clash_at):
                self.refuses("tour", function, BOTH, tour, None)
            self.refuses("tour", lets_cut, BOTH, tour, None, None)
        for gap in (3, -1, True, False, None, "0", (0,)):
            for function in (kept_moments, cut_marks, clash_at):
                self.refuses("gap", function, BOTH, (0, 1), gap)
            self.refuses("gap", lets_cut, BOTH, (0, 1), gap, None)
        self.refuses("tour", clash_at, BOTH, (), None)
        self.refuses("gap", kept_moments, BOTH, (), 1)

    def test_dials_of_any_number(self):
        for dials in samples(random_dials, 5):
            life = (dials, (((0,) * len(dials), 0),))
            self.gives(("first",), cut_marks, life, tuple(range(len(dials))), 0)


if __name__ == "__main__":
    unittest.main()
