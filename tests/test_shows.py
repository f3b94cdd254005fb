"""[53], [54], [55], [62], (G1), (G4), (G7): where nests show values, and what their watches tell."""

import unittest

from stoodthen.errors import Unseen
from stoodthen.lifespans import early_moments, late_moments
from stoodthen.machines import machine_of
from stoodthen.nestkinds import nest_dials, nest_held, nest_tour
from stoodthen.nestlives import life_by
from stoodthen.nestrows import row_at
from stoodthen.nestturns import turn_at
from stoodthen.rightstages import right_stages
from stoodthen.rowtools import all_rows, rows_many
from stoodthen.shows import last_show, next_show
from stoodthen.toldanswers import is_seen, right_span, told_stage
from stoodthen.viewspans import first_end, last_begin
from tests import plain
from tests.samples import HUGE, NEST, SMALL_NESTS, WIDE, WIDE_NESTS, Promises

NO_NUMBERS = (None, True, False, -1, -(10 ** 69), "1", (), (1,), [1])


def views_many(nest):
    return plain.product(nest[0]) ** 2 * plain.product(nest[1])


VIEWED = [nest for nest in SMALL_NESTS if views_many(nest) <= 150]


def all_views(nest):
    return all_rows([nest_dials(nest)[dial] for dial in nest_tour(nest)])


def laid_out(nest):
    """The life of the nest, and its views with the first and last stages of their watches."""
    rows = plain.nest_rows(*nest)
    life = (nest_dials(nest), tuple((row, stage) for stage, row in enumerate(rows)))
    return life, plain.views_by_life(life, nest_tour(nest))


class Shows(Promises):

    def test_examples(self):
        self.gives(3, next_show, NEST, 1, 0, 1)
        self.gives(None, next_show, NEST, 0, 0, 2)
        self.gives(0, last_show, NEST, 1, 0, 2)
        self.gives(None, last_show, NEST, 0, 1, 1)
        self.gives(844424930131967, next_show, ((), (2,) * 100), 0, 1, 0)

    def test_beside_the_life_laid_out(self):
        for nest in SMALL_NESTS[::3] + SMALL_NESTS[-12:]:
            rows = plain.nest_rows(*nest)
            for dial, size in enumerate(nest_dials(nest)):
                for value in range(size):
                    stages = [stage for stage, row in enumerate(rows) if row[dial] == value]
                    for stage in range(len(rows)):
                        self.gives(min([at for at in stages if at >= stage], default=None),
                                   next_show, nest, dial, value, stage)
                        self.gives(max([at for at in stages if at <= stage], default=None),
                                   last_show, nest, dial, value, stage)

    def test_wide(self):
        for nest in WIDE_NESTS:
            dials = nest_dials(nest)
            held = nest_held(nest)
            for dial in {0, len(nest[0]) - 1, len(nest[0]), len(dials) // 2, len(dials) - 1} & set(range(len(dials))):
                for stage in {0, held // 3, held // 7 * 5, held - 1}:
                    self.around(nest, dial, stage)

    def around(self, nest, dial, stage):
        size = nest_dials(nest)[dial]
        here = row_at(nest, stage)[dial]
        self.gives(stage, next_show, nest, dial, here, stage)
        self.gives(stage, last_show, nest, dial, here, stage)
        nexts = []
        for value in {0, 1, size // 2, size - 1, (here + 1) % size, (here - 1) % size} - {here}:
            ahead, back = next_show(nest, dial, value, stage), last_show(nest, dial, value, stage)
            if ahead is not None:
                self.assertGreater(ahead, stage)
                self.assertEqual(row_at(nest, ahead)[dial], value)
                self.gives((dial, value), turn_at, nest, ahead)
                nexts.append(ahead)
            if back is not None:
                self.assertLess(back, stage)
                self.assertEqual(row_at(nest, back)[dial], value)
                self.assertNotEqual(row_at(nest, back + 1)[dial], value)
                # From there on it is not shown until behind the stage.
                self.gives(ahead, next_show, nest, dial, value, back + 1)
            if ahead is not None:
                self.gives(back, last_show, nest, dial, value, ahead - 1)
        if nexts:
            # Up to its next turn the dial shows what it shows here.
            self.gives(min(nexts) - 1, last_show, nest, dial, here, min(nexts) - 1)

    def test_wide_edges(self):
        self.gives(2 ** 198, next_show, (WIDE, ()), 0, 1, 0)
        self.gives(None, next_show, (WIDE, ()), 0, 0, 2 ** 198)
        self.gives(2 ** 198 - 1, last_show, (WIDE, ()), 0, 0, 2 ** 199 - 1)
        self.gives(10 ** 60 - 1, next_show, ((), HUGE), 0, 10 ** 60 - 1, 0)
        self.gives(None, last_show, (HUGE, ()), 0, 7, 6)
        self.gives(6, last_show, (HUGE, ()), 0, 6, 10 ** 60 - 1)

    def test_refused(self):
        for function in (next_show, last_show):
            for wrong in (*NO_NUMBERS, 2):
                self.refuses("dial", function, NEST, wrong, None, None)
                self.refuses("value", function, NEST, 1, wrong, None)
            self.refuses("value", function, ((2,), (3,)), 0, 2, None)
            for wrong in (*NO_NUMBERS, 4, 10 ** 69):
                self.refuses("stage", function, NEST, 1, 1, wrong)


def ends(nest, rows, view):
    """What first_end has by the life laid out: the stages, or the place that Unseen tells."""
    stages = [0]
    for place, (dial, value) in enumerate(zip(nest_tour(nest), view)):
        ahead = [stage for stage in range(stages[-1], len(rows)) if rows[stage][dial] == value]
        if not ahead:
            return place
        stages.append(ahead[0])
    return tuple(stages[1:])


def begins(nest, rows, view):
    stages = [len(rows) - 1]
    for place, (dial, value) in reversed(list(enumerate(zip(nest_tour(nest), view)))):
        back = [stage for stage in range(stages[-1] + 1) if rows[stage][dial] == value]
        if not back:
            return place
        stages.append(back[-1])
    return tuple(stages[:0:-1])


class Spans(Promises):

    def told(self, expected, function, *arguments):
        if isinstance(expected, int):
            self.fails(Unseen, (expected,), function, *arguments)
        else:
            self.gives(expected, function, *arguments)

    def test_examples(self):
        self.gives((0, 1, 2), first_end, NEST, (0, 1, 1))
        self.gives((1, 2, 3), last_begin, NEST, (0, 1, 1))
        self.fails(Unseen, (2,), first_end, NEST, (1, 0, 0))
        self.fails(Unseen, (0,), last_begin, NEST, (1, 0, 0))
        self.gives(False, is_seen, NEST, (1, 0, 0))
        self.gives((1, 2), right_span, NEST, (0, 1, 1))
        self.gives(1, told_stage, NEST, (0, 1, 1))

    def test_beside_the_life_laid_out(self):
        unseen = set()
        for nest in VIEWED:
            rows = plain.nest_rows(*nest)
            for view in all_views(nest):
                first, last = ends(nest, rows, view), begins(nest, rows, view)
                self.told(first, first_end, nest, view)
                self.told(last, last_begin, nest, view)
                self.assertEqual(isinstance(first, int), isinstance(last, int))
                if isinstance(first, int):
                    unseen.add((first, last))
                    self.gives(False, is_seen, nest, view)
                    self.fails(Unseen, (first,), right_span, nest, view)
                    self.fails(Unseen, (first,), told_stage, nest, view)
                else:
                    self.gives(True, is_seen, nest, view)
                    self.gives((last[0], first[-1]), right_span, nest, view)
                    self.gives(last[0], told_stage, nest, view)
        self.assertGreater(len(unseen), 8)

    def test_beside_all_watches(self):
        for nest in VIEWED:
            life, seen = laid_out(nest)
            for view in all_views(nest):
                self.gives(view in seen, is_seen, nest, view)
                if view in seen:
                    first, last = right_span(nest, view)
                    self.assertLessEqual(first, last)
                    self.assertEqual(tuple(range(first, last + 1)), plain.right_for(seen[view], len(life[1])))
                    self.assertIn((first_end(nest, view)[0], last), seen[view])
                    self.assertIn((first, last_begin(nest, view)[-1]), seen[view])

    def test_as_right_stages(self):
        for nest in (NEST, ((2,), (2, 2)), ((), (2, 3)), ((3, 2), ()), ((), (2, 2, 2)), ((2,), (3,))):
            life, seen = laid_out(nest)
            for view in seen:
                first, last = right_span(nest, view)
                self.gives(tuple(range(first, last + 1)), right_stages, machine_of(life), nest_tour(nest), view)

    def test_as_for_the_life(self):
        for nest in VIEWED[::3]:
            life = life_by(nest, nest_held(nest))
            for view in all_views(nest):
                for function, other in ((first_end, early_moments), (last_begin, late_moments)):
                    try:
                        found = function(nest, view)
                    except Unseen as error:
                        found = error.place
                    self.told(found, other, life, nest_tour(nest), view)

    def test_looks_at_one_stage(self):
        for nest in [*SMALL_NESTS[::5], *WIDE_NESTS]:
            held = nest_held(nest)
            for stage in {0, held // 3, held - 1}:
                row = row_at(nest, stage)
                view = tuple(row[dial] for dial in nest_tour(nest))
                self.gives((stage, stage), right_span, nest, view)

    def test_wide_watches(self):
        for nest in WIDE_NESTS:
            held = nest_held(nest)
            tour = nest_tour(nest)
            for begin, end in ((0, held - 1), (held // 3, held // 2)):
                gap = len(tour) // 2
                rows = [row_at(nest, begin), row_at(nest, end)]
                view = tuple(rows[place >= gap][dial] for place, dial in enumerate(tour))
                first, last = right_span(nest, view)
                if gap:
                    self.assertLessEqual(begin, first)
                self.assertLessEqual(first, last)
                self.assertLessEqual(last, end)
                stages = first_end(nest, view)
                self.assertEqual(list(stages), sorted(stages))
                back = last_begin(nest, view)
                self.assertTrue(all(one <= other for one, other in zip(stages, back)))

    def test_answers_never_fall_back(self):
        for nest in (NEST, ((2,), (2, 2)), ((3,), (2,)), ((), (2, 2, 3)), ((2, 2), ()), ((2, 2), (2,)), ((), (5, 3))):
            _, seen = laid_out(nest)
            ended = [(min(end for _, end in spans), told_stage(nest, view)) for view, spans in seen.items()]
            begun = [(max(begin for begin, _ in spans), told_stage(nest, view)) for view, spans in seen.items()]
            for end, told in ended:
                for begin, later in begun:
                    if end <= begin:
                        self.assertLessEqual(told, later)

    def test_wide_views_that_nobody_sees(self):
        # Once the first dial is turned for good, no later look sees its first value.
        self.fails(Unseen, (397,), first_end, (WIDE, ()), (1,) + (0,) * 397)
        self.fails(Unseen, (0,), last_begin, (WIDE, ()), (1,) + (0,) * 397)
        self.gives(False, is_seen, (WIDE, ()), (1,) + (0,) * 397)

    def test_refused(self):
        functions = (first_end, last_begin, is_seen, right_span, told_stage)
        for view in (None, 0, (), (0, 0), (0, 0, 0, 0), (0, 2, 0), (0, 0, -1), (True, 0, 0), [0, 0, 0], "000"):
            for function in functions:
                self.refuses("view", function, NEST, view)
        for function in functions:
            self.refuses("view", function, (WIDE, ()), (0,) * 199)

    def test_many_views(self):
        nest = ((3,), (2, 2, 3, 2))
        self.assertLessEqual(rows_many([nest_dials(nest)[dial] for dial in nest_tour(nest)]), 600)
        life, seen = laid_out(nest)
        for view in list(seen)[::5]:
            first, last = right_span(nest, view)
            self.assertEqual(tuple(range(first, last + 1)), plain.right_for(seen[view], len(life[1])))


if __name__ == "__main__":
    unittest.main()
