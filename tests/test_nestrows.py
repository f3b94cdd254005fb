"""[8], [46], [47], [48], (G4): the rows of nests, what turns in them, their lives."""

import unittest

from stoodthen.cores import core_row, core_stage
from stoodthen.errors import TooMany
from stoodthen.leastcuts import least_cut
from stoodthen.lives import is_lean, life_of, turns_of
from stoodthen.machines import machine_of
from stoodthen.nestkinds import nest_dials, nest_held, nest_tour
from stoodthen.nestlives import life_by
from stoodthen.nestrows import row_at, shift_of, stage_by
from stoodthen.nestturns import nest_turns, off_row, turn_at
from stoodthen.rightstages import is_safe
from stoodthen.rowtools import all_rows
from stoodthen.twolooks import two_looks
from tests import plain
from tests.samples import HUGE, SMALL_NESTS, WIDE, WIDE_NESTS, Promises, tuples_of

INNER = [inner for inner in tuples_of((2, 3), 4) if inner] + [(5, 2, 3), (4, 4), (12,), (2, 7, 2), (6, 6, 2)]
NO_NUMBERS = (None, True, False, -1, -(10 ** 69), "1", (), (1,), [1])


def stages_of_wide(nest):
    held = nest_held(nest)
    return {0, 1, held // 2, held // 3, held // 7 * 5, held // 13, held - 2, held - 1}


class Cores(Promises):

    def test_examples(self):
        self.gives((1, 1, 1), core_row, (2, 2, 2), 3)
        self.gives(4, core_stage, (2, 2, 2), (1, 0, 1))
        self.gives(None, core_stage, (2, 2, 2), (1, 0, 0))

    def test_beside_the_life_laid_out(self):
        for inner in INNER:
            rows = plain.nest_rows((), inner)
            self.assertEqual(len(rows), plain.least_cut(inner))
            for stage, row in enumerate(rows):
                self.gives(row, core_row, inner, stage)
            for row in all_rows(inner):
                self.gives(rows.index(row) if row in rows else None, core_stage, inner, row)

    def test_wide(self):
        for inner in (WIDE, HUGE, (3,) * 125, (10 ** 30, 10 ** 30), (5 * 10 ** 59, 2), (2, 10 ** 58, 3)):
            for stage in stages_of_wide(((), inner)):
                row = core_row(inner, stage)
                self.gives(stage, core_stage, inner, row)
                self.gives(row, row_at, ((), inner), stage)
        self.gives((10 ** 60 - 1,), core_row, HUGE, 10 ** 60 - 1)
        self.gives(None, core_stage, WIDE, (1,) + (0,) * 198)

    def test_refused(self):
        self.refuses("inner", core_row, (), 0)
        self.refuses("inner", core_row, (), None)
        self.refuses("inner", core_stage, (), ())
        self.refuses("inner", core_stage, (), None)
        for inner in ((2,), (2, 3), (2, 2, 3)):
            for wrong in (*NO_NUMBERS, least_cut(inner), 10 ** 69):
                self.refuses("stage", core_row, inner, wrong)
            for row in (None, (), (0,) * (len(inner) + 1), (2,) * len(inner), (True,) * len(inner), [0] * len(inner)):
                self.refuses("row", core_stage, inner, row)


class Rows(Promises):

    def test_examples(self):
        self.gives((2, 0), row_at, ((3,), (2,)), 4)
        self.gives(3, stage_by, ((3,), (2,)), (1, 0))
        self.gives((2, 1), shift_of, ((3,), (2,)))

    def test_beside_the_life_laid_out(self):
        for nest in SMALL_NESTS:
            rows = plain.nest_rows(*nest)
            self.assertEqual(len(rows), nest_held(nest))
            self.assertEqual(len(set(rows)), len(rows))
            for stage, row in enumerate(rows):
                self.gives(row, row_at, nest, stage)
            places = {row: stage for stage, row in enumerate(rows)}
            for row in all_rows(nest_dials(nest)):
                self.gives(places.get(row), stage_by, nest, row)
            self.gives(rows[-1], shift_of, nest)
            self.assertEqual(rows[0], (0,) * len(rows[0]))

    def test_wide(self):
        for nest in WIDE_NESTS:
            dials = nest_dials(nest)
            self.gives((0,) * len(dials), row_at, nest, 0)
            self.gives(row_at(nest, nest_held(nest) - 1), shift_of, nest)
            for stage in stages_of_wide(nest):
                row = row_at(nest, stage)
                self.gives(stage, stage_by, nest, row)
                if stage:
                    before = row_at(nest, stage - 1)
                    (dial,) = [dial for dial in range(len(dials)) if row[dial] != before[dial]]
                    self.gives((dial, row[dial]), turn_at, nest, stage)
            self.gives(nest_held(nest) - 1, sum, [nest_turns(nest, dial) for dial in range(len(dials))])
        for stage in (2 ** 197, 2 ** 199 // 3, 2 ** 198 + 2 ** 100 + 7):
            bits = stage ^ stage >> 1
            self.gives(tuple(bits >> 198 - dial & 1 for dial in range(199)), row_at, (WIDE, ()), stage)

    def test_copies_of_wide_nests(self):
        for outer, inner in WIDE_NESTS:
            if outer and (outer[1:] or inner):
                rest = (outer[1:], inner)
                held = nest_held(rest)
                shift = shift_of(rest)
                for copy in {0, 1, outer[0] // 2, outer[0] - 1}:
                    for stage in stages_of_wide(rest):
                        row = [(value + copy * more) % size
                               for value, more, size in zip(row_at(rest, stage), shift, nest_dials(rest))]
                        self.gives((copy, *row), row_at, (outer, inner), copy * held + stage)

    def test_rows_in_no_stage(self):
        self.gives(None, stage_by, ((), (2, 2)), (0, 1))
        self.gives(None, stage_by, ((2,), (2, 2)), (1, 1, 0))
        self.gives(5, stage_by, ((2,), (2, 2)), (1, 0, 0))
        self.gives(None, stage_by, ((), WIDE), (0,) * 198 + (1,))
        self.gives(None, stage_by, ((2,) * 100, (2,) * 99), (0,) * 198 + (1,))
        self.gives(2 ** 199 - 1, stage_by, (WIDE, ()), (1,) + (0,) * 198)

    def test_refused(self):
        nest = ((3,), (2,))
        for wrong in (*NO_NUMBERS, 6, 10 ** 69):
            self.refuses("stage", row_at, nest, wrong)
        for row in (None, (), (0,), (0, 0, 0), (3, 0), (0, 2), (-1, 0), (True, 0), [0, 0], "00"):
            self.refuses("row", stage_by, nest, row)


class Turns(Promises):

    def test_examples(self):
        self.gives((1, 0), turn_at, ((3,), (2,)), 3)
        self.gives(3, nest_turns, ((3,), (2,)), 1)
        self.gives((1, 1), off_row, ((3,), (2,)), 1, 7)

    def test_beside_the_life_laid_out(self):
        for nest in SMALL_NESTS:
            rows = plain.nest_rows(*nest)
            turns = [0 for _ in rows[0]]
            for stage in range(1, len(rows)):
                (dial,) = [dial for dial in range(len(turns)) if rows[stage][dial] != rows[stage - 1][dial]]
                turns[dial] += 1
                self.gives((dial, rows[stage][dial]), turn_at, nest, stage)
            for dial, many in enumerate(turns):
                self.gives(many, nest_turns, nest, dial)
            for dial, size in enumerate(nest[0]):
                self.assertEqual(turns[dial], (size - 1) * plain.product(nest[0][:dial]))
            self.assertEqual(sum(turns), len(rows) - 1)

    def test_kept_for_off(self):
        for nest in SMALL_NESTS[::7]:
            rows = plain.nest_rows(*nest)
            for off in (0, 1, 3):
                for stage in range((2 * off + 1) * len(rows)):
                    self.gives(rows[stage // (2 * off + 1)], off_row, nest, off, stage)
        held = nest_held((WIDE, ()))
        last = (2 * 10 ** 6 + 1) * held - 1
        self.gives(row_at((WIDE, ()), held - 1), off_row, (WIDE, ()), 10 ** 6, last)
        self.gives((0,) * 199, off_row, (WIDE, ()), 10 ** 6, 2 * 10 ** 6)

    def test_refused(self):
        nest = ((3,), (2,))
        for wrong in (*NO_NUMBERS, 0, 6, 10 ** 69):
            self.refuses("stage", turn_at, nest, wrong)
        for wrong in (*NO_NUMBERS, 2):
            self.refuses("dial", nest_turns, nest, wrong)
            self.refuses("dial", nest_turns, ((2, 2), ()), wrong)
        for wrong in NO_NUMBERS:
            self.refuses("off", off_row, nest, wrong, wrong)
            self.refuses("stage", off_row, nest, 1, wrong)
        self.refuses("stage", off_row, nest, 1, 18)
        self.refuses("stage", off_row, nest, 0, 6)


class Lives(Promises):

    def test_examples(self):
        self.gives(((3, 2), (((0, 0), 0), ((0, 1), 1), ((1, 1), 2), ((1, 0), 3), ((2, 0), 4), ((2, 1), 5))),
                   life_by, ((3,), (2,)), 6)
        self.gives(((2, 2, 2), (((0, 0, 0), 0), ((0, 1, 0), 1), ((1, 1, 0), 2), ((1, 1, 1), 3), ((1, 0, 1), 4))),
                   life_by, ((), (2, 2, 2)), 5)

    def test_beside_the_life_laid_out(self):
        for nest in SMALL_NESTS:
            rows = tuple(plain.nest_rows(*nest))
            for many in {1, 2, len(rows) // 2, len(rows)}:
                if 1 <= many <= len(rows):
                    life = life_of(nest_dials(nest), rows[:many])
                    self.gives(life, life_by, nest, many)
                    self.gives(True, is_lean, life)
                    self.is_life(life)
            for dial in range(len(rows[0])):
                self.gives(nest_turns(nest, dial), turns_of, life_by(nest, len(rows)), dial)

    def test_safe(self):
        for nest in SMALL_NESTS:
            life = life_by(nest, nest_held(nest))
            tour = nest_tour(nest)
            self.gives(None, two_looks, life, tour)
            self.gives(True, is_safe, machine_of(life), tour)
        for nest in (((2,) * 4, (2,) * 8), ((), (7, 8, 9, 5)), ((9, 6, 7), ())):
            life = life_by(nest, min(nest_held(nest), 400))
            self.gives(None, two_looks, life, nest_tour(nest))

    def test_wide(self):
        for nest in WIDE_NESTS:
            many = min(400, nest_held(nest))
            life = life_by(nest, many)
            self.is_life(life)
            self.gives(True, is_lean, life)
            self.gives(row_at(nest, many - 1), lambda spots: spots[-1][0], life[1])

    def test_too_many(self):
        self.fails(TooMany, (6,), life_by, ((3,), (2,)), 7)
        self.fails(TooMany, (6,), life_by, ((3,), (2,)), 400)
        self.fails(TooMany, (2,), life_by, ((), (2,)), 3)
        self.fails(TooMany, (399,), life_by, ((), (399,)), 400)
        self.gives(400, lambda life: len(life[1]), life_by(((), (400,)), 400))

    def test_refused(self):
        for wrong in (*NO_NUMBERS, 0, 401, 10 ** 69):
            self.refuses("many", life_by, ((3,), (2,)), wrong)
            self.refuses("many", life_by, (WIDE, ()), wrong)


if __name__ == "__main__":
    unittest.main()
