"""[23], [24]: what watches see and meet, and their checker."""

import itertools
import unittest

from stoodthen.machines import machine_of
from stoodthen.views import stages_met, view_of, watch_view
from stoodthen.watchchecker import lets_watch
from tests import plain
from tests.samples import BOTH, KEPT, MB, MT, ODD, RM, STILL, Promises, random_life, random_machine, samples

BAD_TOURS = (None, 0, "", [], [0], (2,), (0, 2), (-1,), (True,), (0, None), ("0",), ((0,),))


class Lives(Promises):

    def test_view_of(self):
        self.gives((0, 0), view_of, BOTH, (0, 1), (1, 3))
        self.gives((0,), view_of, BOTH, (0,), (0,))
        self.gives((0, 1, 1, 1), view_of, BOTH, (0, 1, 1, 0), (1, 1, 1, 3))
        self.gives((2, 1), view_of, KEPT, (1, 0), (1, 3))
        self.gives((2,) * 16, view_of, STILL, (0,) * 16, (0,) * 16)
        for life in samples(random_life, 20):
            for tour in ((0,), (len(life[0]) - 1, 0), (0, 0, 0)):
                for moments in plain.life_watches(life, len(tour)):
                    self.gives(plain.life_view(life, tour, moments), view_of, life, tour, moments)

    def test_view_of_refuses(self):
        for tour in (*BAD_TOURS, ()):
            self.refuses("tour", view_of, BOTH, tour, None)
        for moments in (None, (), (0,), (0, 0, 0), (1, 0), (0, 4), (-1, 0), (True, 1), (0, True), [0, 1], 0, "00"):
            self.refuses("moments", view_of, BOTH, (0, 1), moments)


class Watches(Promises):

    def test_watch_view(self):
        self.gives((0, 0), watch_view, MB, (0, 1), (1, 2, 3), (0, 2))
        self.gives((1, 0), watch_view, RM, (0, 0), (0, 1, 0, 1), (0, 3))
        self.gives((0, 1, 0), watch_view, MB, (0, 1, 0), (0, 1), (0, 1, 1))
        self.gives((), watch_view, MB, (), (2,), ())
        self.gives((2,), watch_view, machine_of(STILL), (0,), (0,), (0,))

    def test_watch_view_refuses(self):
        walks = (None, (), (4,), (0, 2), (1, 0), (0, 0), [0], [0, 1], (True,), (0, True), 0, "0")
        for tour in BAD_TOURS:
            self.refuses("tour", watch_view, MB, tour, None, None)
        for walk in walks:
            self.refuses("walk", watch_view, MB, (0, 1), walk, None)
            self.refuses("walk", watch_view, MB, (), walk, None)
        self.refuses("walk", watch_view, MB, (), (0, 1), ())
        for moments in (None, (), (0,), (0, 1), (0, 3), (1, 2), (0, 2, 2), (0, True), (False, 2), [0, 2], 0, "02",
                        (2, 0), (-1, 2)):
            self.refuses("moments", watch_view, MB, (0, 1), (1, 2, 3), moments)
        self.refuses("moments", watch_view, MB, (0, 1, 0), (1, 2, 3), (0, 1, 0))
        self.refuses("moments", watch_view, MB, (0,), (0, 1), (0,))
        self.refuses("moments", watch_view, MB, (0,), (0, 1), (1,))
        for moments in (None, (0,), [], 0, ""):
            self.refuses("moments", watch_view, MB, (), (0,), moments)

    def test_stages_met(self):
        self.gives((1, 2), stages_met, machine_of(KEPT), (2, 3, 4, 5))
        self.gives((0, 1, 2), stages_met, RM, (2, 0, 1, 2, 0))
        self.gives((3,), stages_met, MB, (3,))
        self.gives((1, 8, 16), stages_met, ((2,), (((0,), 16), ((0,), 8), ((0,), 1)), ((0, 1), (1, 2))), (0, 1, 2))
        for walk in (None, (), (4,), (0, 2), (1, 0), [0], (True,), 0, "0"):
            self.refuses("walk", stages_met, MB, walk)

    def test_long_walks(self):
        walk = (0, 1, 2) * 1600
        self.gives((0, 1, 2), stages_met, RM, walk)
        self.gives((1, 1), watch_view, RM, (0, 2), walk, (0, len(walk) - 1))


class Checker(Promises):

    def test_watches(self):
        self.gives((0, 0), lets_watch, MB, (0, 1), ((1, 2, 3), (0, 2)))
        self.gives((), lets_watch, MB, (), ((2,), ()))
        self.gives((1, 1), lets_watch, MT, (1, 0), ((2,), (0, 0)))

    def test_tours(self):
        for tour in BAD_TOURS:
            self.refuses("tour", lets_watch, MB, tour, None)

    def test_words(self):
        for thing in (*ODD, ((0,), (0, 0), ()), [(0,), (0, 0)], ((0,),)):
            if thing not in ((False, False), ("tell", 0), (0, 10 ** 69), ((2, 2), (((0, 0), True),))):
                self.rejects("shape", -1, lets_watch, MB, (0, 1), thing)
        for walk in (None, (), (4,), (0, 2), (1, 0), (0, 0), [0], (True,), 0, "0"):
            self.rejects("walk", -1, lets_watch, MB, (0, 1), (walk, None))
            self.rejects("walk", -1, lets_watch, MB, (), (walk, None))
        self.rejects("walk", -1, lets_watch, MB, (), ((0, 1), ()))
        for moments in (None, (), (0,), (0, 1), (1, 2), (0, 2, 2), (0, True), (False, 2), [0, 2], (2, 0)):
            self.rejects("moments", -1, lets_watch, MB, (0, 1), ((1, 2, 3), moments))
        self.rejects("moments", -1, lets_watch, MB, (), ((0,), (0,)))
        self.rejects("moments", -1, lets_watch, MB, (), ((0,), None))

    def test_beside_the_definition(self):
        for machine in samples(random_machine, 25, 3):
            spots = range(len(machine[1]))
            walks = [walk for many in (1, 2, 3) for walk in itertools.product(spots, repeat=many)]
            for tour in ((), (0,), (len(machine[0]) - 1, 0)):
                for walk in walks:
                    for moments in itertools.product(range(3), repeat=len(tour)):
                        try:
                            view = lets_watch(machine, tour, (walk, moments))
                        except ValueError as error:
                            self.assertFalse(plain.is_watch(machine, tour, walk, moments), error)
                        else:
                            self.assertTrue(plain.is_watch(machine, tour, walk, moments))
                            seen = tuple(machine[1][walk[at]][0][dial] for dial, at in zip(tour, moments))
                            self.assertEqual(view, seen)


if __name__ == "__main__":
    unittest.main()
