"""[31]: a machine and a tour as one object."""

import unittest

from stoodthen.errors import Torn
from stoodthen.lookclasses import Looks
from stoodthen.machines import machine_of
from stoodthen.rightstages import answer_table, first_torn, is_safe, right_stages
from stoodthen.seenviews import views_of
from stoodthen.views import stages_met
from tests.samples import BOTH, MB, MT, ODD, RM, STILL, Promises, random_machine, random_tour, samples


def machine_and_tour(rng):
    machine = random_machine(rng)
    return machine, random_tour(rng, machine[0])


class Looking(Promises):

    def test_as_the_functions(self):
        for machine, tour in samples(machine_and_tour, 60):
            looks = Looks(machine, tour)
            views = views_of(machine, tour)
            self.gives(views, looks.views)
            for view in views:
                self.gives(right_stages(machine, tour, view), looks.right, view)
            self.gives(is_safe(machine, tour), looks.safe)
            torn = first_torn(machine, tour)
            self.gives(torn, looks.torn)
            if torn is None:
                self.gives(answer_table(machine, tour), looks.table)
            else:
                self.fails(Torn, (torn,), looks.table)
            for walk in ((0,), *machine[2]):
                self.gives(stages_met(machine, walk), looks.met, walk)

    def test_met_asks_for_no_tour(self):
        self.gives((0, 1, 2), Looks(MT, ()).met, (0, 1, 2))

    def test_not_made(self):
        for machine in (*ODD, BOTH, (2, 2), list(MB), (*MB, ()), (MB[0], MB[1], ((0, 1),))):
            self.refuses("machine", Looks, machine, None)
        for tour in (None, 0, "", [], [0], (2,), (-1,), (True,), (0, None), ((0,),)):
            self.refuses("tour", Looks, MB, tour)
        self.assertEqual(Looks(machine=MB, tour=()), Looks(MB, ()))

    def test_refused(self):
        looks = Looks(MB, (0, 1))
        for view in (None, (), (0,), (0, 0, 0), (0, 2), (True, 0), [0, 0]):
            self.refuses("view", looks.right, view)
        for walk in (None, (), (4,), (0, 2), (1, 0), [0], (True,)):
            self.refuses("walk", looks.met, walk)

    def test_equal(self):
        one = Looks(MB, (0, 1))
        self.assertIs(one == Looks(machine_of(BOTH), (0, 1)), True)
        self.assertIs(one != Looks(machine_of(BOTH), (0, 1)), False)
        for other in (Looks(MB, (1, 0)), Looks(MT, (0, 1)), Looks(RM, (0, 1)), Looks(machine_of(STILL), ()), MB,
                      (MB, (0, 1)), None, *ODD):
            self.assertIs(one == other, False)
            self.assertIs(other == one, False)
            self.assertIs(one != other, True)


if __name__ == "__main__":
    unittest.main()
