"""[60], [62]: readers that look along a tour, and those of nests."""

import itertools
import unittest

from stoodthen.machines import machine_of
from stoodthen.nestkinds import nest_dials, nest_held, nest_tour
from stoodthen.nestlives import life_by
from stoodthen.readerchecker import lets_reader
from stoodthen.readerjudges import judged_reader
from stoodthen.readerruns import shown
from stoodthen.rowtools import all_rows
from stoodthen.toldanswers import is_seen, told_stage
from stoodthen.treereaders import nest_reader, reader_by, seen_table
from tests import plain
from tests.samples import NEST, SMALL_NESTS, Promises, random_dials, random_tour, samples


def steps_at_least(dials, tour):
    """The sum of the products of the sizes of the first dials looked at."""
    return sum(plain.product([dials[dial] for dial in tour[:many]]) for many in range(len(tour) + 1))


NESTS = [nest for nest in SMALL_NESTS if steps_at_least(nest_dials(nest), nest_tour(nest)) <= 400]


def tour_and_table(rng):
    dials = random_dials(rng)
    tour = random_tour(rng, dials, 4)
    views = list(itertools.product(*[range(dials[dial]) for dial in tour]))
    kept = sorted(rng.sample(views, rng.randrange(len(views) + 1)))
    return dials, tour, tuple((view, rng.randrange(10 ** 6)) for view in kept)


class Readers(Promises):

    def along(self, reader, tour, view):
        """What the reader tells for the view, if its looks are those of the tour."""
        step = 0
        for dial, value in zip(tour, view):
            self.assertEqual(reader[step][:2], ("look", dial))
            step = reader[step][2][value]
        self.assertEqual(reader[step][0], "tell")
        return reader[step][1]

    def test_example(self):
        reader = reader_by((2, 2), (0, 1), (((1, 0), 4),))
        self.assertEqual(shown((2, 2), reader, (1, 0))[1], 4)

    def test_any_table(self):
        for dials, tour, table in samples(tour_and_table, 150):
            before = repr((dials, tour, table))
            reader = reader_by(dials, tour, table)
            self.assertEqual(repr((dials, tour, table)), before)
            self.assertEqual(lets_reader(dials, reader), len(reader))
            self.assertLessEqual(len(reader), 400)
            told = dict(table)
            for view in itertools.product(*[range(dials[dial]) for dial in tour]):
                self.assertEqual(self.along(reader, tour, view), told.get(view, 0))

    def test_no_looks(self):
        self.gives((("tell", 7),), reader_by, (2, 2), (), (((), 7),))
        self.gives((("tell", 0),), reader_by, (2, 2), (), ())

    def test_four_hundred_steps(self):
        for dials, tour in (((2,) * 7, tuple(range(7))), ((19, 19), (0, 1)), ((399,), (0,)), ((3, 5, 3, 2), (1, 0, 2, 3)),
                            ((2,), (0,) * 7)):
            self.assertLessEqual(steps_at_least(dials, tour), 400)
            view = tuple(dials[dial] - 1 for dial in tour)
            reader = reader_by(dials, tour, ((view, 5),))
            self.assertEqual(lets_reader(dials, reader), len(reader))
            self.assertLessEqual(len(reader), 400)
            self.assertEqual(self.along(reader, tour, view), 5)
            self.assertEqual(self.along(reader, tour, (0,) * len(tour)), 0)

    def test_refused(self):
        for tour in (None, 0, "", [], [0], (2,), (-1,), (True,), (0, None), ((0,),)):
            self.refuses("tour", reader_by, (2, 2), tour, None)
        for table in (None, 0, "", [], [((0, 0), 1)], ((0, 0), 1), (((0, 0),),), (((0, 0), 1, 2),), (((0,), 1),),
                      (((0, 0, 0), 1),), (((0, 2), 1),), (((True, 0), 1),), (((0, 0), -1),), (((0, 0), True),),
                      (((0, 0), None),), ([(0, 0), 1],), (((0, 1), 1), ((0, 0), 1)), (((0, 0), 1), ((0, 0), 2)),
                      (((0, 0), 1), ((0, 0), 1)), (((0, 0), 1), None), (([0, 0], 1),)):
            self.refuses("table", reader_by, (2, 2), (0, 1), table)


class Tables(Promises):

    def test_examples(self):
        self.gives((((0,), 0), ((1,), 1)), seen_table, ((), (2,)))
        self.gives((((0, 0), 0), ((0, 1), 0), ((1, 1), 1)), seen_table, ((2,), ()))

    def test_all_views(self):
        for nest in NESTS[::2] + [((3,), (2, 2, 2, 2, 2)), ((2, 2, 2), (3,))]:
            tour = nest_tour(nest)
            views = all_rows([nest_dials(nest)[dial] for dial in tour])
            table = tuple((view, told_stage(nest, view)) for view in views if is_seen(nest, view))
            self.gives(table, seen_table, nest)

    def test_views_of_watches(self):
        for nest in NESTS[::3]:
            life = life_by(nest, nest_held(nest))
            seen = plain.views_by_life(life, nest_tour(nest))
            table = seen_table(nest)
            self.assertEqual([view for view, _ in table], sorted(seen))
            for view, stage in table:
                self.assertEqual(stage, plain.right_for(seen[view], len(life[1]))[0])

    def test_readers_of_nests(self):
        for nest in NESTS:
            reader = nest_reader(nest)
            self.assertEqual(lets_reader(nest_dials(nest), reader), len(reader))
            self.assertLessEqual(len(reader), 400)
            self.assertEqual(reader, reader_by(nest_dials(nest), nest_tour(nest), seen_table(nest)))

    def test_right_for_the_life(self):
        for nest in [*NESTS[::3], NEST, ((), (2, 2, 2)), ((3, 2), ())]:
            if nest_held(nest) <= 24:
                life = life_by(nest, nest_held(nest))
                self.gives("right", judged_reader, machine_of(life), nest_reader(nest))


if __name__ == "__main__":
    unittest.main()
