"""[2], [3], [4], [13]: integers, numbers, dials, rows, tours, views."""

import unittest

from stoodthen.kinds import is_dials, is_integer, is_number, is_row, is_tour, is_view
from stoodthen.lifeclasses import Life
from tests.samples import HUGE, ODD, STILL, WIDE, Promises


class Kinds(Promises):

    def only(self, good, bad, function, *arguments):
        for thing in good:
            self.gives(True, function, *arguments, thing)
        for thing in bad:
            self.gives(False, function, *arguments, thing)

    def test_integers(self):
        good = [0, 1, -1, 10 ** 69, -(10 ** 69)]
        self.only(good, [thing for thing in ODD if not any(thing is one for one in ODD[3:8])], is_integer)
        self.only(good, [True, False, None, "1", "", (), (1,), [1], Life(*STILL)], is_integer)

    def test_numbers(self):
        self.only([0, 1, 10 ** 69], [-1, -(10 ** 69), True, False, None, "0", (), (0,), [0]], is_number)

    def test_dials(self):
        good = [(2,), (2, 2), (12, 3), WIDE, HUGE, (10,) * 60, (2,) * 5000]
        bad = [(), (1,), (0,), (-2,), (2, 1), (1, 2), (2, True), (True, 2), ("2",), ((2,),), [2, 2], 2, "2", None]
        self.only(good, bad, is_dials)
        self.only([], [thing for thing in ODD if thing != (0, 10 ** 69)], is_dials)

    def test_rows(self):
        bad = [(0,), (0, 0, 0), (2, 0), (0, 3), (-1, 0), (True, 0), (0, False), ("0", 0), [0, 0], None, "00", 0, ()]
        self.only([(0, 0), (1, 2)], bad, is_row, (2, 3))
        self.only([(0,), (10 ** 60 - 1,)], [(10 ** 60,), (), (-1,), 0], is_row, HUGE)
        self.only([(1,) * 199, (0,) * 199], [(1,) * 198, (1,) * 200, (1,) * 198 + (2,)], is_row, WIDE)
        self.only([], [thing for thing in ODD if thing != (False, False)], is_row, (2, 2))
        self.only([], [(False, False)], is_row, (2, 2))

    def test_tours(self):
        bad = [(2,), (0, 2), (-1,), (True,), (0, False), ("0",), ((0,),), [0], [], 0, None, "", "0"]
        self.only([(), (0,), (1, 0, 1, 1)], bad, is_tour, (2, 3))
        self.only([(0,) * 400, (198,) * 400, tuple(range(199))], [(199,), (0, -1)], is_tour, WIDE)

    def test_views(self):
        bad = [(), (0,), (0, 0), (0, 0, 0, 0), (3, 0, 0), (0, 2, 0), (-1, 0, 0), (True, 0, 0), [0, 0, 0], None]
        self.only([(0, 0, 0), (2, 1, 2), (0, 1, 2)], bad, is_view, (2, 3), (1, 0, 1))
        self.only([()], [(0,), None, [], "", 0, False], is_view, (2, 3), ())
        self.only([(1,) * 400], [(1,) * 399, (1,) * 399 + (2,)], is_view, WIDE, (7,) * 400)
        self.only([(0, 10 ** 60 - 1)], [(0, 10 ** 60)], is_view, HUGE, (0, 0))

    def test_views_of_no_tour(self):
        for tour in (None, [0], (2,), (True,), 0, "", (-1,)):
            self.refuses("tour", is_view, (2, 3), tour, (0,))
            self.refuses("tour", is_view, (2, 3), tour, None)

    def test_by_name(self):
        self.assertIs(is_integer(thing=3), True)
        self.assertIs(is_row(dials=(2,), thing=(1,)), True)
        self.assertIs(is_view(dials=(2,), tour=(0,), thing=(1,)), True)


if __name__ == "__main__":
    unittest.main()
