"""[25], [26], [27], [32], (G1): seen views, right stages, and tours that are not safe."""

import itertools
import unittest

from stoodthen.avoidpapers import avoid_paper, lets_avoiding
from stoodthen.errors import Torn
from stoodthen.lives import stages_many
from stoodthen.machines import machine_by, machine_of, stages_of, stepping_back, turning_by, weakened
from stoodthen.nets import ring_net
from stoodthen.rightstages import answer_table, avoiding_watch, first_torn, is_safe, right_stages
from stoodthen.seenviews import can_see, views_of, watch_with
from stoodthen.twolooks import lets_two_looks, two_looks
from stoodthen.views import stages_met
from stoodthen.watchchecker import lets_watch
from tests import plain
from tests.samples import (
    BOTH, KEPT, MB, MT, RING, RM, STILL, TWO, Promises, counted_life, random_life, random_machine, random_tour,
    samples)

BAD_TOURS = (None, 0, "", [], [0], (2,), (0, 2), (-1,), (True,), (0, None), ("0",), ((0,),))
BAD_VIEWS = (None, (), (0,), (0, 0, 0), (0, 2), (2, 0), (-1, 0), (True, 0), (0, False), [0, 0], 0, "00")
STILL_MACHINE = machine_of(STILL)


def machine_and_tour(rng):
    machine = random_machine(rng)
    return machine, random_tour(rng, machine[0])


def life_and_tour(rng):
    life = random_life(rng)
    return life, random_tour(rng, life[0])


CASES = samples(machine_and_tour, 150) + [(machine_of(life), tour) for life, tour in samples(life_and_tour, 100)]
CASES += [(MB, (0, 1)), (MB, (0, 1, 0)), (MT, (0, 1)), (MT, ()), (STILL_MACHINE, ()), (STILL_MACHINE, (0, 0)),
          (RM, (0, 1, 2)), (MB, (0, 0, 1, 1)), (machine_of(KEPT), (1, 0, 1))]


class Seen(Promises):

    def test_views(self):
        self.gives(((0, 0), (0, 1), (1, 1)), views_of, MT, (1, 0))
        self.gives(((),), views_of, MT, ())
        self.gives(((2, 2, 2),), views_of, STILL_MACHINE, (0, 0, 0))
        for machine, tour in CASES:
            self.gives(plain.views(machine, tour), views_of, machine, tour)

    def test_watches(self):
        self.gives(((0,), ()), watch_with, STILL_MACHINE, (), ())
        self.gives(None, watch_with, MT, (1, 0), (1, 0))
        for machine, tour in CASES:
            seen = plain.views(machine, tour)
            for view in itertools.product(*[range(machine[0][dial]) for dial in tour]):
                self.gives(view in seen, can_see, machine, tour, view)
                watch = watch_with(machine, tour, view)
                if view in seen:
                    self.gives(view, lets_watch, machine, tour, watch)
                else:
                    self.assertIsNone(watch)

    def test_refused(self):
        for tour in BAD_TOURS:
            self.refuses("tour", views_of, MT, tour)
            for function in (can_see, watch_with):
                self.refuses("tour", function, MT, tour, None)
        for view in BAD_VIEWS:
            for function in (can_see, watch_with):
                self.refuses("view", function, MT, (1, 0), view)
        for view in (None, (0,), [], 0, ""):
            self.refuses("view", can_see, MT, (), view)

    def test_views_are_not_gone_through(self):
        dials = (12,) * 8
        life = (dials, tuple(((0,) * 7 + (value,), value) for value in range(12)))
        machine = machine_of(life)
        tour = tuple(range(8)) * 2
        view = (0,) * 7 + (3,) + (0,) * 7 + (7,)
        self.gives(True, can_see, machine, tour, view)
        self.gives(view, lets_watch, machine, tour, watch_with(machine, tour, view))
        self.gives(tuple(range(3, 8)), right_stages, machine, tour, view)
        self.gives(False, can_see, machine, tour, view[8:] + view[:8])
        self.gives(tuple(range(12)), right_stages, machine, tour, view[8:] + view[:8])


class Right(Promises):

    def test_examples(self):
        self.gives((0, 1, 2), right_stages, MT, (0, 1), (0, 1))
        self.gives((), right_stages, MB, (0, 1), (0, 0))
        self.gives((((0, 0), 0), ((0, 1), 0), ((1, 0), 1), ((1, 1), 2)), answer_table, MT, (0, 1))
        self.gives((), first_torn, MT, ())

    def test_beside_the_definition(self):
        for machine, tour in CASES:
            torn = plain.torn_views(machine, tour)
            self.gives(not torn, is_safe, machine, tour)
            self.gives(torn[0] if torn else None, first_torn, machine, tour)
            table = []
            for view in itertools.product(*[range(machine[0][dial]) for dial in tour]):
                right = plain.right_stages(machine, tour, view)
                self.gives(right, right_stages, machine, tour, view)
                if right and view in plain.views(machine, tour):
                    table.append((view, right[0]))
            if torn:
                self.fails(Torn, (torn[0],), answer_table, machine, tour)
            else:
                self.gives(tuple(table), answer_table, machine, tour)

    def test_no_looks(self):
        self.gives(True, is_safe, STILL_MACHINE, ())
        self.gives((((), 0),), answer_table, STILL_MACHINE, ())
        self.gives((0,), right_stages, STILL_MACHINE, (), ())
        self.gives((), right_stages, MT, (), ())
        self.gives(False, is_safe, MT, ())
        self.fails(Torn, ((),), answer_table, MT, ())
        self.gives(((1,), ()), avoiding_watch, ((2,), (((0,), 0), ((0,), 1)), ((0, 1),)), (), (), 0)
        self.gives(None, avoiding_watch, STILL_MACHINE, (), (), 0)

    def test_avoiding(self):
        self.gives(((1, 2, 3), (0, 2)), avoiding_watch, MB, (0, 1), (0, 0), 0)
        for machine, tour in CASES:
            for view in plain.views(machine, tour):
                for stage in plain.stages(machine):
                    watch = avoiding_watch(machine, tour, view, stage)
                    if stage in plain.right_stages(machine, tour, view):
                        self.assertIsNone(watch)
                    else:
                        self.gives(view, lets_watch, machine, tour, watch)
                        self.assertNotIn(stage, stages_met(machine, watch[0]))
        self.gives(None, avoiding_watch, MT, (1, 0), (1, 0), 0)

    def test_refused(self):
        for tour in BAD_TOURS:
            for function in (is_safe, first_torn, answer_table, avoid_paper):
                self.refuses("tour", function, MT, tour)
            self.refuses("tour", right_stages, MT, tour, None)
            self.refuses("tour", avoiding_watch, MT, tour, None, None)
            self.refuses("tour", lets_avoiding, MT, tour, None)
        for view in BAD_VIEWS:
            self.refuses("view", right_stages, MT, (1, 0), view)
            self.refuses("view", avoiding_watch, MT, (1, 0), view, None)
        for stage in (3, -1, True, False, None, "0", (0,)):
            self.refuses("stage", avoiding_watch, MT, (1, 0), (0, 0), stage)

    def test_old_looks_stay_right(self):
        for machine, tour in samples(machine_and_tour, 40, seed=7):
            for place in range(len(tour) + 1):
                for dial in range(len(machine[0])):
                    longer = tour[:place] + (dial,) + tour[place:]
                    if is_safe(machine, tour):
                        self.gives(True, is_safe, machine, longer)
                    for view in views_of(machine, longer)[:6]:
                        right = right_stages(machine, tour, view[:place] + view[place + 1:])
                        self.assertLessEqual(set(right), set(right_stages(machine, longer, view)))


class Lives(Promises):

    def test_right_from_latest_beginning_to_earliest_end(self):
        for life, tour in samples(life_and_tour, 60, seed=3):
            if tour:
                spans = {}
                for moments in plain.life_watches(life, len(tour)):
                    span = (life[1][moments[0]][1], life[1][moments[-1]][1])
                    spans.setdefault(plain.life_view(life, tour, moments), []).append(span)
                for view, pairs in spans.items():
                    latest, earliest = max(begin for begin, _ in pairs), min(end for _, end in pairs)
                    self.gives(tuple(range(latest, earliest + 1)), right_stages, machine_of(life), tour, view)

    def test_two_looks(self):
        self.gives(((0, 0), (1, 3)), two_looks, BOTH, (0, 1))
        self.gives(None, two_looks, TWO, (0, 1))
        self.gives(None, two_looks, STILL, (0,) * 16)
        for life, tour in samples(life_and_tour, 200, seed=4):
            if tour:
                pairs = plain.two_looks(life, tour)
                found = two_looks(life, tour)
                self.assertEqual(found is None, not pairs)
                self.gives(found is None, is_safe, machine_of(life), tour)
                if found is not None:
                    self.assertIn(found, pairs)
                    self.gives(plain.life_view(life, tour, found[0]), lets_two_looks, life, tour, found)

    def test_what_comes_soonest_goes_on_best(self):
        # The first look of the first watch at moment 0 has its like at moment 3 alone.
        life = ((2, 3), (((0, 2), 0), ((1, 1), 0), ((1, 1), 1), ((0, 0), 1)))
        self.gives(((1, 1), (2, 2)), two_looks, life, (0, 1))
        # What moment 0 has its like in comes ahead of what moment 1 has.
        life = ((2, 3), (((0, 2), 0), ((1, 1), 0), ((0, 1), 1), ((1, 0), 1)))
        self.gives(((0, 1), (2, 2)), two_looks, life, (0, 1))
        for life in samples(random_life, 300, 9, seed=5):
            for tour in ((0, len(life[0]) - 1), (len(life[0]) - 1, 0, len(life[0]) - 1)):
                self.assertEqual(two_looks(life, tour) is None, not plain.two_looks(life, tour))

    def test_two_looks_are_found_among_many(self):
        life = ((12,) * 8, tuple(((place % 12, place // 12 % 12, place // 144) + (0,) * 5, place)
                                 for place in range(400)))
        self.assertIsNone(two_looks(life, (2, 1, 0, 1, 2)))
        tour = (0,) * 8 + (1,) * 8
        pair = two_looks(life, tour)
        self.assertEqual(lets_two_looks(life, tour, pair), plain.life_view(life, tour, pair[0]))
        full = counted_life((2,) * 8, 256)
        self.assertIsNone(two_looks(full, tuple(range(8)) + tuple(range(7))[::-1]))
        self.assertIsNotNone(two_looks(full, tuple(range(8)) + tuple(range(6))[::-1]))

    def test_two_looks_refuse_tours(self):
        for tour in (*BAD_TOURS, ()):
            self.refuses("tour", two_looks, BOTH, tour)
            self.refuses("tour", lets_two_looks, BOTH, tour, None)

    def test_lets_two_looks(self):
        self.gives((0, 0), lets_two_looks, BOTH, (0, 1), ((0, 0), (1, 3)))
        for thing in (None, (), ((0, 0),), [(0, 0), (1, 3)], ((0, 0), (1, 3), ()), 0, "", ((0, 0), (1, 3), (1, 3))):
            self.rejects("shape", -1, lets_two_looks, BOTH, (0, 1), thing)
        for moments in (None, (), (0,), (0, 0, 0), (1, 0), (0, 4), (-1, 0), (True, 1), [0, 0], 0, "00"):
            self.rejects("moments", 0, lets_two_looks, BOTH, (0, 1), (moments, None))
            self.rejects("moments", 1, lets_two_looks, BOTH, (0, 1), ((0, 0), moments))
        self.rejects("views", -1, lets_two_looks, BOTH, (0, 1), ((0, 0), (1, 2)))
        self.rejects("views", -1, lets_two_looks, BOTH, (0, 1), ((0, 0), (0, 1)))
        self.rejects("stages", -1, lets_two_looks, BOTH, (0, 1), ((0, 0), (0, 0)))
        self.rejects("stages", -1, lets_two_looks, BOTH, (0, 1), ((0, 0), (0, 3)))
        self.rejects("stages", -1, lets_two_looks, BOTH, (0, 1), ((1, 3), (0, 0)))
        self.rejects("stages", -1, lets_two_looks, BOTH, (0, 1), ((0, 3), (1, 3)))
        self.rejects("stages", -1, lets_two_looks, KEPT, (0,), ((0,), (1,)))
        self.gives((1,), lets_two_looks, ((2,), (((1,), 0), ((0,), 0), ((1,), 1))), (0,), ((0,), (2,)))


class Papers(Promises):

    def test_avoid_paper(self):
        for machine, tour in CASES:
            paper = avoid_paper(machine, tour)
            self.assertEqual(paper is None, is_safe(machine, tour))
            if paper is not None:
                self.assertEqual((type(paper), len(paper), type(paper[1])), (tuple, 2, tuple))
                self.gives(paper[0], lets_avoiding, machine, tour, paper)
                self.assertIn(paper[0], plain.torn_views(machine, tour))

    def test_lets_avoiding(self):
        view, watches = (0, 0), (((1, 2, 3), (0, 2)), ((0,), (0, 0)), ((0,), (0, 0)), ((0,), (0, 0)))
        self.gives(view, lets_avoiding, MB, (0, 1), (view, watches))
        for thing in (None, (), (view,), (view, watches, ()), [view, watches], 0, ""):
            self.rejects("shape", -1, lets_avoiding, MB, (0, 1), thing)
        for wrong in BAD_VIEWS:
            self.rejects("view", -1, lets_avoiding, MB, (0, 1), (wrong, None))
        for wrong in (None, (), watches[:3], (*watches, watches[0]), list(watches), 0, ""):
            self.rejects("watches", -1, lets_avoiding, MB, (0, 1), (view, wrong))
        bad = [None, (), ((0,),), [(0,), (0, 0)], ((0, 0), (0, 1)), ((0,), (0,)), ((1,), (0, 0)), ((9,), (0, 0)),
               ((True,), (0, 0)), ((3,), (0, 0))]
        for place in range(4):
            meeting = (tuple(range(place + 1)), (0, 0)) if place == 0 else ((1, 2, 3), (0, 2))
            for wrong in (*bad, meeting):
                paper = (*watches[:place], wrong, *([None] * (3 - place)))
                self.rejects("watch", place, lets_avoiding, MB, (0, 1), (view, paper))
        self.gives((), lets_avoiding, MB, (), ((), (((1,), ()), ((0,), ()), ((3,), ()), ((2,), ()))))
        self.rejects("watch", 3, lets_avoiding, MB, (), ((), (((1,), ()), ((0,), ()), ((3,), ()), ((3,), ()))))
        self.rejects("watch", 0, lets_avoiding, MB, (), ((), (((1, 2), ()), ((0,), ()), ((3,), ()), ((3,), ()))))

    def test_stages_by_their_place(self):
        machine = ((2,), (((0,), 5), ((0,), 9)), ((0, 1), (1, 0)))
        self.gives((0,), lets_avoiding, machine, (0,), ((0,), (((1,), (0,)), ((0,), (0,)))))
        self.rejects("watch", 0, lets_avoiding, machine, (0,), ((0,), (((0,), (0,)), ((1,), (0,)))))
        self.gives(((0,), (((1,), (0,)), ((0,), (0,)))), avoid_paper, machine, (0,))


class Large(Promises):

    def test_machines_of_three_hundred_spots(self):
        life = counted_life((4, 5, 12), 240)
        machine = machine_of(life)
        self.gives(True, is_safe, machine, (0, 1, 2, 1, 0))
        self.gives(False, is_safe, machine, (0, 1, 2, 1))
        self.assertIsNotNone(avoid_paper(machine, (0, 1, 2)))
        rows = tuple(row for row, _ in counted_life((2,) * 6, 60)[1])
        back = stepping_back((2,) * 6, rows, 4)
        self.assertEqual(len(back[1]), 290)
        tour = tuple(range(6)) + (0, 1, 2)
        paper = avoid_paper(back, tour)
        self.assertEqual(lets_avoiding(back, tour, paper), first_torn(back, tour))
        slow = weakened(machine_of(counted_life((2, 5, 10), 100)))
        self.assertEqual(len(slow[1]), 298)
        self.gives(True, is_safe, slow, (0, 1, 2, 1, 0))
        self.assertEqual(stages_of(slow), tuple(range(100)))

    def test_a_whole_count(self):
        sizes = (2, 3, 10)
        machine = machine_of(counted_life(sizes, 60))
        table = answer_table(machine, (0, 1, 2, 1, 0))
        for view, stage in table[::17]:
            self.assertEqual(right_stages(machine, (0, 1, 2, 1, 0), view)[0], stage)
        self.assertEqual(len(table), len(views_of(machine, (0, 1, 2, 1, 0))))

    def test_turned_one_by_one(self):
        net = ring_net(6)
        rows = tuple((stage, stage) for stage in range(6))
        at_once = machine_by(net, (6, 6), rows)
        one_by_one = turning_by(net, (6, 6), rows)
        self.gives(True, is_safe, at_once, (0,))
        self.gives(True, is_safe, at_once, (1, 0))
        self.assertEqual(len(one_by_one[1]), 6 + 24)
        self.assertEqual(is_safe(one_by_one, (0, 1)), not plain.torn_views(one_by_one, (0, 1)))

    def test_ring_of_three(self):
        self.assertEqual(stages_many(TWO), 3)
        for tour in ((0, 1, 2), (0, 1, 2, 0, 1, 2), (2, 1, 0, 0, 1, 2)):
            self.gives(False, is_safe, machine_by(RING, RM[0], tuple(row for row, _ in RM[1])), tour)


if __name__ == "__main__":
    unittest.main()
