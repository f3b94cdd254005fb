"""[52], [59], [61], [62], (G14): codes and tellers as objects, and answers that are off."""

import unittest

from stoodthen.codeclasses import Code
from stoodthen.errors import TooMany, Unseen
from stoodthen.lifechanges import kept_life
from stoodthen.nestkinds import nest_dials, nest_held, nest_tour
from stoodthen.nestlives import life_by
from stoodthen.nestrows import row_at, shift_of, stage_by
from stoodthen.nestturns import nest_turns, off_row, turn_at
from stoodthen.offtold import off_span, off_stage
from stoodthen.rowtools import all_rows
from stoodthen.tellclasses import Teller
from stoodthen.toldanswers import is_seen, right_span, told_stage
from stoodthen.treereaders import nest_reader
from stoodthen.weaktold import weak_stage
from tests import plain
from tests.samples import NEST, ODD, SMALL_NESTS, WIDE, WIDE_NESTS, Promises

NO_NUMBERS = (None, True, False, -1, -(10 ** 69), "1", (), (1,), [1])
BAD_SIZES = (None, 0, 2, True, "", "2", [], [2], (1,), (2, 0), (-2,), (True,), (2, None), ((2,),), ([],))
FEW = [nest for nest in SMALL_NESTS if plain.product(nest[0]) ** 2 * plain.product(nest[1]) <= 60]


def all_views(nest):
    return all_rows([nest_dials(nest)[dial] for dial in nest_tour(nest)])


class Codes(Promises):

    def test_as_the_functions(self):
        for nest in SMALL_NESTS[::4]:
            code = Code(*nest)
            held = nest_held(nest)
            self.gives(held, code.held)
            self.gives(shift_of(nest), code.shift)
            for stage in range(held):
                self.gives(row_at(nest, stage), code.row, stage)
                if stage:
                    self.gives(turn_at(nest, stage), code.turn, stage)
            for row in all_rows(nest_dials(nest)):
                self.gives(stage_by(nest, row), code.stage, row)
            for dial in range(len(nest_dials(nest))):
                self.gives(nest_turns(nest, dial), code.turns, dial)
            self.gives(life_by(nest, held), code.life, held)
            self.fails(TooMany, (held,), code.life, held + 1)

    def test_wide(self):
        for nest in WIDE_NESTS:
            code = Code(*nest)
            last = nest_held(nest) - 1
            self.gives(last, code.stage, code.row(last))
            self.gives(code.row(last), code.shift)

    def test_grown(self):
        for nest in [*SMALL_NESTS[::4], *WIDE_NESTS]:
            for size in (2, 3, 10 ** 69):
                code = Code(*nest)
                grown = code.grown(size)
                self.assertEqual(grown, Code((size, *nest[0]), nest[1]))
                self.assertEqual(code, Code(*nest))
                self.assertIs(type(grown), Code)
                self.assertEqual(grown.held(), size * code.held())
                held = nest_held(nest)
                for stage in {0, held // 3, held - 1}:
                    self.gives((0, *code.row(stage)), grown.row, stage)
                    self.gives(stage, grown.stage, (0, *code.row(stage)))

    def test_old_stages_of_a_grown_nest(self):
        for nest in SMALL_NESTS[::6]:
            grown = Code(*nest).grown(3)
            for stage, row in enumerate(plain.nest_rows(*nest)):
                self.gives((0, *row), grown.row, stage)

    def test_not_made(self):
        for make in (Code, Teller):
            for wrong in BAD_SIZES:
                self.refuses("outer", make, wrong, wrong)
                self.refuses("inner", make, (2,), wrong)
                self.refuses("inner", make, (), wrong)
            self.refuses("inner", make, (), ())
            self.assertEqual(make(outer=(2,), inner=()), make((2,), ()))

    def test_refused(self):
        code = Code((3,), (2,))
        for wrong in (*NO_NUMBERS, 6):
            self.refuses("stage", code.row, wrong)
            self.refuses("stage", code.turn, wrong)
        self.refuses("stage", code.turn, 0)
        for row in (None, (), (0,), (3, 0), [0, 0], (True, 0)):
            self.refuses("row", code.stage, row)
        for wrong in (*NO_NUMBERS, 2):
            self.refuses("dial", code.turns, wrong)
        for wrong in (*NO_NUMBERS, 0, 401):
            self.refuses("many", code.life, wrong)
        for wrong in (*NO_NUMBERS, 0, 1):
            self.refuses("size", code.grown, wrong)

    def test_equal(self):
        for make in (Code, Teller):
            one = make((3,), (2,))
            self.assertIs(one == make((3,), (2,)), True)
            self.assertIs(one != make((3,), (2,)), False)
            for other in (make((2,), (3,)), make((3, 2), ()), make((), (3, 2)), make((3,), (2, 2)), ((3,), (2,)), *ODD,
                          Code((3,), (2,)) if make is Teller else Teller((3,), (2,))):
                self.assertIs(one == other, False)
                self.assertIs(other == one, False)
                self.assertIs(one != other, True)


class Off(Promises):

    def test_examples(self):
        self.gives((4, 7), off_span, NEST, 1, (0, 1, 1))
        self.gives(4, off_stage, NEST, 1, (0, 1, 1))

    def test_beside_all_watches_of_the_kept_code(self):
        for nest in FEW:
            for off in (0, 1, 2):
                life = kept_life(life_by(nest, nest_held(nest)), 2 * off + 1)
                if off < 2:
                    self.assertEqual(life[1], tuple((off_row(nest, off, stage), stage) for stage in range(len(life[1]))))
                seen = plain.views_by_life(life, nest_tour(nest))
                for view in all_views(nest):
                    if view not in seen:
                        self.gives(False, is_seen, nest, view)
                        continue
                    right = [number for number in range(len(life[1]) + off + 1)
                             if all(first - off <= number <= last + off for first, last in seen[view])]
                    first, last = off_span(nest, off, view)
                    self.assertEqual(list(range(first, last + 1)), right)
                    self.gives(first, off_stage, nest, off, view)

    def test_not_off(self):
        for nest in FEW:
            for view in all_views(nest):
                if is_seen(nest, view):
                    self.gives(right_span(nest, view), off_span, nest, 0, view)
                    self.gives(told_stage(nest, view), off_stage, nest, 0, view)

    def test_unseen(self):
        self.fails(Unseen, (2,), off_span, NEST, 1, (1, 0, 0))
        self.fails(Unseen, (2,), off_stage, NEST, 0, (1, 0, 0))

    def test_wide(self):
        nest = ((2,) * 100, (2,) * 99)
        stage = nest_held(nest) // 3
        row = row_at(nest, stage)
        view = tuple(row[dial] for dial in nest_tour(nest))
        middle = (2 * 10 ** 6 + 1) * stage + 10 ** 6
        self.gives((middle, middle), off_span, nest, 10 ** 6, view)
        self.gives((1, 1), off_span, (WIDE, ()), 1, (0,) * 398)

    def test_refused(self):
        for function in (off_span, off_stage):
            for wrong in NO_NUMBERS:
                self.refuses("off", function, NEST, wrong, None)
            for view in (None, 0, (), (0, 0), (0, 2, 0), (0, 0, -1), (True, 0, 0), [0, 0, 0]):
                self.refuses("view", function, NEST, 1, view)


class Tellers(Promises):

    def either(self, function, method, *arguments):
        """The method gives or raises what the function does."""
        try:
            found = function(*arguments)
        except Unseen as error:
            self.fails(Unseen, (error.place,), method, *arguments[1:])
        else:
            self.gives(found, method, *arguments[1:])

    def test_as_the_functions(self):
        for nest in FEW:
            teller = Teller(*nest)
            for view in all_views(nest):
                self.either(told_stage, teller.told, nest, view)
                self.either(right_span, teller.span, nest, view)
                self.either(is_seen, teller.seen, nest, view)
                self.either(weak_stage, teller.weak, nest, view)
            self.gives(nest_reader(nest), teller.reader)

    def test_near(self):
        teller = Teller(*NEST)
        for view in all_views(NEST):
            for off in (0, 1, 5):
                if is_seen(NEST, view):
                    self.gives(off_stage(NEST, off, view), teller.near, off, view)
                else:
                    with self.assertRaises(Unseen):
                        teller.near(off, view)

    def test_refused(self):
        teller = Teller(*NEST)
        for view in (None, 0, (), (0, 0), (0, 2, 0), (True, 0, 0), [0, 0, 0]):
            for method in (teller.told, teller.span, teller.seen, teller.weak):
                self.refuses("view", method, view)
            self.refuses("view", teller.near, 1, view)
        for wrong in NO_NUMBERS:
            self.refuses("off", teller.near, wrong, None)


if __name__ == "__main__":
    unittest.main()
