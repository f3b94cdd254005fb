"""[58], [62], (G12), (G13): what is told over weak dials."""

import unittest

from stoodthen.errors import Unseen
from stoodthen.looknumbers import to_and_fro
from stoodthen.machines import machine_of, stepping_back, weakened
from stoodthen.nestkinds import nest_dials, nest_held, nest_tour
from stoodthen.nestrows import row_at
from stoodthen.readables import is_readable, sweep_tour
from stoodthen.rightstages import is_safe, right_stages
from stoodthen.rowtools import all_rows
from stoodthen.seenviews import views_of
from stoodthen.toandfro import counted_row
from stoodthen.toldanswers import is_seen, told_stage
from stoodthen.weaktold import weak_first, weak_stage
from tests import plain
from tests.samples import (
    HUGE, NEST, SMALL_NESTS, WIDE, WIDE_NESTS, Promises, random_lean_life, random_tour, samples, tuples_of)

VIEWED = [nest for nest in SMALL_NESTS if plain.product(nest[0]) ** 2 * plain.product(nest[1]) <= 150]


def all_views(nest):
    return all_rows([nest_dials(nest)[dial] for dial in nest_tour(nest)])


def laid_out(nest):
    return (nest_dials(nest), tuple((row, stage) for stage, row in enumerate(plain.nest_rows(*nest))))


def weakly_told(nest, view):
    """The pair of weak_first and weak_stage, step by step as the document tells; or Unseen's place."""
    outer, inner = nest
    looks = list(view)
    begin = 0
    for place, size in enumerate(outer):
        rest = plain.nest_rows(outer[place + 1:], inner)
        first, last = looks[0], looks[-1]
        if first != last:
            if last > first or last == first - 1:
                return (place, begin + max(first, last) * len(rest))
            return len(view) - 1 - place
        begin += first * len(rest)
        sizes = outer[place + 1:] + inner
        shift = [more - less for more, less in zip(rest[-1], rest[0])]
        tour = plain.nest_tour((outer[place + 1:], inner))
        looks = [(look - first * shift[dial]) % sizes[dial] for look, dial in zip(looks[1:-1], tour)]
    if not inner:
        return (len(outer), begin)
    rows = plain.nest_rows((), inner)
    stages = [0]
    for place, value in enumerate(looks):
        ahead = [stage for stage in range(stages[-1], len(rows)) if rows[stage][place] == value]
        if not ahead:
            return len(outer) + place
        stages.append(ahead[0])
    back = len(rows) - 1
    for place in reversed(range(len(looks))):
        back = max(stage for stage in range(back + 1) if rows[stage][place] == looks[place])
    return (len(outer), begin + back)


class Told(Promises):

    def test_examples(self):
        self.gives(2, weak_stage, NEST, (1, 0, 0))
        self.gives(2, weak_stage, NEST, (0, 1, 1))
        self.gives(2, weak_stage, NEST, (1, 1, 1))
        self.gives(3, weak_stage, ((2, 2), ()), (1, 0, 1, 1))
        self.gives(1, weak_first, ((2, 2), ()), (1, 0, 1, 1))
        self.fails(Unseen, (2,), weak_stage, ((3,), (2,)), (2, 0, 0))
        self.fails(Unseen, (2,), weak_first, ((3,), (2,)), (2, 0, 0))

    def test_step_by_step(self):
        places = set()
        firsts = set()
        for nest in VIEWED:
            for view in all_views(nest):
                told = weakly_told(nest, view)
                if isinstance(told, int):
                    places.add(told)
                    self.fails(Unseen, (told,), weak_stage, nest, view)
                    self.fails(Unseen, (told,), weak_first, nest, view)
                else:
                    firsts.add(told[0])
                    self.gives(told[0], weak_first, nest, view)
                    self.gives(told[1], weak_stage, nest, view)
        self.assertEqual(firsts, {0, 1, 2})
        self.assertGreater(len(places), 3)

    def test_right_over_weak_dials(self):
        for nest in VIEWED:
            life = laid_out(nest)
            for view, spans in plain.weak_views(life, nest_tour(nest)).items():
                self.assertIn(weak_stage(nest, view), plain.right_for(spans, len(life[1])), (nest, view))

    def test_right_for_views_that_are_seen(self):
        for nest in VIEWED:
            life = laid_out(nest)
            for view, spans in plain.views_by_life(life, nest_tour(nest)).items():
                self.gives(True, is_seen, nest, view)
                self.assertIn(weak_stage(nest, view), plain.right_for(spans, len(life[1])))

    def test_told_stage_need_not_be_met(self):
        nest = ((2, 2), ())
        view = (0, 0, 1, 1)
        self.gives(0, told_stage, nest, view)
        spans = plain.weak_views(laid_out(nest), nest_tour(nest))[view]
        self.assertIn((1, 3), spans)
        self.assertNotIn(0, plain.right_for(spans, 4))
        self.assertIn(weak_stage(nest, view), plain.right_for(spans, 4))

    def test_wide(self):
        for nest in WIDE_NESTS:
            held = nest_held(nest)
            for stage in {0, held // 3, held - 1}:
                row = row_at(nest, stage)
                view = tuple(row[dial] for dial in nest_tour(nest))
                self.gives(stage, weak_stage, nest, view)
                self.gives(len(nest[0]), weak_first, nest, view)

    def test_wide_turns(self):
        for nest in WIDE_NESTS:
            outer, inner = nest
            if outer and outer[0] > 2:
                many = len(nest_tour(nest))
                rest = nest_held((outer[1:], inner))
                self.gives(2 * rest, weak_stage, nest, (2, *(0,) * (many - 2), 1))
                self.gives(2 * rest, weak_stage, nest, (0, *(0,) * (many - 2), 2))
                self.gives(0, weak_first, nest, (0, *(0,) * (many - 2), 2))
                self.fails(Unseen, (many - 1,), weak_stage, nest, (2, *(0,) * (many - 1)))
        self.gives(2 ** 198, weak_stage, (WIDE, ()), (1, *(0,) * 397))
        self.fails(Unseen, (1,), weak_stage, (HUGE, ()), (10 ** 60 - 1, 0))
        self.gives(10 ** 60 - 1, weak_stage, (HUGE, ()), (0, 10 ** 60 - 1))

    def test_refused(self):
        for view in (None, 0, (), (0, 0), (0, 0, 0, 0), (0, 2, 0), (0, 0, -1), (True, 0, 0), [0, 0, 0], "000"):
            self.refuses("view", weak_stage, NEST, view)
            self.refuses("view", weak_first, NEST, view)


def lean_and_tour(rng):
    life = random_lean_life(rng, 6)
    return life, random_tour(rng, life[0], 4)


class Weak(Promises):

    def views_and_right(self, machine, tour):
        return {view: right_stages(machine, tour, view) for view in views_of(machine, tour)}

    def weakly(self, life, tour):
        return {view: plain.right_for(spans, len(life[1])) for view, spans in plain.weak_views(life, tour).items()}

    def test_weakened_and_one_step_back(self):
        for life, tour in samples(lean_and_tour, 150):
            weak = self.weakly(life, tour)
            self.assertEqual(self.views_and_right(weakened(machine_of(life)), tour), weak)
            rows = tuple(row for row, _ in life[1])
            self.assertEqual(self.views_and_right(stepping_back(life[0], rows, 1), tour), weak)

    def test_tours_with_each_dial_at_most_once(self):
        found = 0
        for life, tour in samples(lean_and_tour, 300):
            if len(set(tour)) == len(tour):
                found += 1
                self.assertEqual(self.views_and_right(machine_of(life), tour), self.weakly(life, tour))
        self.assertGreater(found, 60)

    def test_nests_are_held_with_one_step_back(self):
        for nest in VIEWED[::4]:
            if nest_held(nest) <= 24:
                rows = tuple(plain.nest_rows(*nest))
                right = self.views_and_right(stepping_back(nest_dials(nest), rows, 1), nest_tour(nest))
                for view, stages in right.items():
                    self.assertIn(weak_stage(nest, view), stages)

    def test_readable_with_one_step_back_if_no_row_stands_twice(self):
        swept = 0
        for life in samples(random_lean_life, 200):
            dials = life[0]
            rows = tuple(row for row, _ in life[1])
            back = stepping_back(dials, rows, 1)
            once = len(set(rows)) == len(rows)
            self.gives(once, is_readable, back)
            if once and plain.product(dials) ** (len(rows) - 1) <= 700:
                swept += 1
                self.gives(True, is_safe, back, sweep_tour(dials, len(rows) - 1))
        self.assertGreater(swept, 30)

    def test_counted_rows_with_one_step_back(self):
        for dials in [dials for dials in tuples_of((2, 3, 4), 3) if dials]:
            rows = tuple(counted_row(dials, count) for count in range(plain.product(dials)))
            if len(rows) <= 36:
                self.gives(True, is_safe, stepping_back(dials, rows, 1), to_and_fro(dials))

    def test_answers_fall_back_by_one_stage_at_most(self):
        for nest in (NEST, ((2, 2), ()), ((3,), (2,)), ((2,), (2, 2)), ((2, 2), (2,))):
            seen = plain.weak_views(laid_out(nest), nest_tour(nest))
            answers = {view: weak_stage(nest, view) for view in seen}
            for view, spans in seen.items():
                for other, later in seen.items():
                    # Unless one turn lasts from the end of the one to the begin of the other, not at all.
                    between = max(begin for begin, _ in later) - min(end for _, end in spans)
                    if between >= -1:
                        self.assertLessEqual(answers[view] - answers[other], 0 if between >= 0 else 1)


if __name__ == "__main__":
    unittest.main()
