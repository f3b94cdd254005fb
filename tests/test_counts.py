"""[8], [43], [44], [45], [48]: counts to and fro, where they show a value, and how two of them mesh."""

import unittest

from stoodthen.leastcuts import least_cut
from stoodthen.meshes import (
    counts_at, halves_of, left_begins, right_begins, right_comes, rights_ahead)
from stoodthen.showncounts import last_count, next_count
from stoodthen.toandfro import count_by, counted_row, place_turns, turned_place
from tests import plain
from tests.samples import HUGE, WIDE, Promises, tuples_of

SIZES = [sizes for sizes in tuples_of((2, 3, 4), 3) if sizes] + [(5, 2, 7), (2, 2, 2, 2), (12,), (3, 3, 3, 3)]
NO_NUMBERS = (None, True, False, -1, -(10 ** 69), "1", (), (1,), [1])
INNER = [inner for inner in tuples_of((2, 3, 5), 4) if len(inner) > 1] + [
    (12, 12), (2, 12), (12, 2), (2, 2, 12, 2, 2), (7, 2, 3, 5), (2,) * 8, (4, 4, 4), (6, 10, 2)]
WIDE_INNER = [WIDE, (3,) * 125, (10 ** 30, 10 ** 30), (2, 5 * 10 ** 59), (5 * 10 ** 59, 2), (10 ** 20,) * 3,
              (2, 10 ** 58, 3), (2, 3, 5) * 40]


class Counted(Promises):

    def test_examples(self):
        self.gives((1, 1), counted_row, (2, 3), 4)
        self.gives(4, count_by, (2, 3), (1, 1))
        self.gives(0, turned_place, (2, 3), 3)
        self.gives(4, place_turns, (2, 3), 1)

    def test_beside_the_definition(self):
        for sizes in SIZES:
            rows = [plain.counted_row(sizes, count) for count in range(plain.product(sizes))]
            self.assertEqual(len(set(rows)), len(rows))
            turns = [0 for _ in sizes]
            for count, row in enumerate(rows):
                self.gives(row, counted_row, sizes, count)
                self.gives(count, count_by, sizes, row)
                if count:
                    unlike = [place for place in range(len(sizes)) if row[place] != rows[count - 1][place]]
                    self.assertEqual(len(unlike), 1)
                    self.assertEqual(abs(row[unlike[0]] - rows[count - 1][unlike[0]]), 1)
                    self.gives(unlike[0], turned_place, sizes, count)
                    turns[unlike[0]] += 1
            for place, many in enumerate(turns):
                self.gives(many, place_turns, sizes, place)

    def test_first_and_last(self):
        for sizes in SIZES + [WIDE, HUGE, (3,) * 125]:
            self.gives((0,) * len(sizes), counted_row, sizes, 0)
            last = plain.product(sizes) - 1
            self.gives(plain.counted_row(sizes, last), counted_row, sizes, last)
            self.gives(last, count_by, sizes, plain.counted_row(sizes, last))
            self.gives(len(sizes) - 1, turned_place, sizes, 1)

    def test_wide(self):
        for sizes in WIDE_INNER:
            many = plain.product(sizes)
            self.gives(many - 1, sum, [place_turns(sizes, place) for place in range(len(sizes))])
            for count in (1, many // 2, many // 3, many // 7 * 5, many - 2):
                row = plain.counted_row(sizes, count)
                self.gives(row, counted_row, sizes, count)
                self.gives(count, count_by, sizes, row)
                before = plain.counted_row(sizes, count - 1)
                self.gives([place for place in range(len(sizes)) if row[place] != before[place]][0],
                           turned_place, sizes, count)
        self.gives(0, turned_place, WIDE, 2 ** 198)
        self.gives(1, place_turns, WIDE, 0)
        self.gives(2 ** 198, place_turns, WIDE, 198)
        self.gives(10 ** 60 - 1, place_turns, HUGE, 0)

    def test_refused(self):
        for wrong in (*NO_NUMBERS, 6, 10 ** 69):
            self.refuses("count", counted_row, (2, 3), wrong)
            self.refuses("count", turned_place, (2, 3), wrong)
            self.refuses("place", place_turns, (2, 3), wrong)
        self.refuses("count", turned_place, (2, 3), 0)
        self.refuses("place", place_turns, (2, 3), 2)
        for row in (None, (), (0,), (0, 0, 0), (2, 0), (0, 3), (0, -1), (True, 0), [0, 0], "00", ((0, 0),)):
            self.refuses("row", count_by, (2, 3), row)


class Shown(Promises):

    def test_examples(self):
        self.gives(5, next_count, (2, 3), 1, 0, 1)
        self.gives(None, next_count, (2, 3), 0, 0, 3)
        self.gives(3, last_count, (2, 3), 1, 2, 5)

    def test_beside_all_counts(self):
        for sizes in SIZES:
            rows = [plain.counted_row(sizes, count) for count in range(plain.product(sizes))]
            for place, size in enumerate(sizes):
                for value in range(size):
                    counts = [count for count, row in enumerate(rows) if row[place] == value]
                    for count in range(len(rows)):
                        self.gives(min([at for at in counts if at >= count], default=None),
                                   next_count, sizes, place, value, count)
                        self.gives(max([at for at in counts if at <= count], default=None),
                                   last_count, sizes, place, value, count)

    def test_wide(self):
        self.gives(2 ** 198, next_count, WIDE, 0, 1, 0)
        self.gives(None, last_count, WIDE, 0, 1, 2 ** 198 - 1)
        self.gives(2 ** 198 - 1, last_count, WIDE, 0, 0, 2 ** 199 - 1)
        self.gives(None, next_count, WIDE, 0, 0, 2 ** 198)
        self.gives(2 ** 198, last_count, WIDE, 0, 1, 2 ** 198)
        self.gives(2 ** 150 + 3, next_count, WIDE, 198, 0, 2 ** 150 + 1)
        self.gives(10 ** 60 - 1, next_count, HUGE, 0, 10 ** 60 - 1, 5)
        self.gives(None, last_count, HUGE, 0, 6, 5)
        for sizes in WIDE_INNER:
            last = plain.product(sizes) - 1
            for place in {0, len(sizes) // 2, len(sizes) - 1}:
                for count in (0, last // 2, last):
                    self.gives(count, next_count, sizes, place, plain.counted_row(sizes, count)[place], count)
                    self.gives(count, last_count, sizes, place, plain.counted_row(sizes, count)[place], count)
                    for value in {0, sizes[place] - 1}:
                        found = next_count(sizes, place, value, count)
                        if found not in (None, count):
                            self.assertEqual(plain.counted_row(sizes, found)[place], value)
                            self.assertNotEqual(plain.counted_row(sizes, found - 1)[place], value)

    def test_refused(self):
        for function in (next_count, last_count):
            for wrong in (*NO_NUMBERS, 2):
                self.refuses("place", function, (2, 3), wrong, None, None)
            for wrong in (*NO_NUMBERS, 3):
                self.refuses("value", function, (2, 3), 1, wrong, None)
            self.refuses("value", function, (2, 3), 0, 2, None)
            for wrong in (*NO_NUMBERS, 6):
                self.refuses("count", function, (2, 3), 1, 2, wrong)


class Meshes(Promises):

    def test_examples(self):
        self.gives((2, 4, 2, 2), halves_of, (2, 2, 2))
        self.gives(0, right_comes, (2, 2, 2), 1)
        self.gives(1, right_comes, (2, 2, 2), 3)
        self.gives(1, rights_ahead, (2, 2, 2), 1)
        self.gives((1, 2), counts_at, (2, 2, 2), 3)
        self.gives(2, left_begins, (2, 2, 2), 1)
        self.gives(4, right_begins, (2, 2, 2), 3)

    def test_beside_the_steps(self):
        for inner in INNER:
            cuts = plain.cuts_of(inner)
            gap = cuts.index(min(cuts)) + 1
            lefts, rights = plain.product(inner[:gap]), plain.product(inner[gap:])
            self.gives((lefts, rights, inner[gap - 1], inner[gap]), halves_of, inner)
            pairs = plain.mesh(inner)
            self.assertEqual(len(pairs), min(cuts))
            for stage, pair in enumerate(pairs):
                self.assertEqual(sum(pair), stage)
                self.gives(pair, counts_at, inner, stage)
            for left in range(lefts):
                stages = [stage for stage, pair in enumerate(pairs) if pair[0] == left]
                self.gives(stages[0], left_begins, inner, left)
                self.gives(pairs[stages[0] - 1][1] if left else 0, rights_ahead, inner, left)
            for right in range(rights):
                stages = [stage for stage, pair in enumerate(pairs) if pair[1] == right]
                self.gives(stages[0], right_begins, inner, right)
                if right:
                    self.gives(pairs[stages[0]][0], right_comes, inner, right)

    def test_the_lesser_one_of_the_two_numbers(self):
        for inner in INNER:
            lefts, rights, near, far = halves_of(inner)
            comes = [min(right * near, lefts - 1 - (rights - 1 - right) // far) for right in range(1, rights)]
            for right in range(1, rights):
                self.gives(comes[right - 1], right_comes, inner, right)
            self.assertEqual(comes, sorted(comes))

    def test_wide(self):
        for inner in WIDE_INNER:
            lefts, rights, near, far = halves_of(inner)
            held = lefts + rights - 1
            self.gives(held, least_cut, inner)
            self.gives((0, 0), counts_at, inner, 0)
            self.gives((lefts - 1, rights - 1), counts_at, inner, held - 1)
            for stage in (1, held // 2, held // 3, held // 7 * 5, held - 2):
                left, right = counts_at(inner, stage)
                self.assertEqual(left + right, stage)
                begins = [left_begins(inner, left), right_begins(inner, right)]
                self.assertEqual(max(begins), stage)
                self.assertLess(min(begins), stage)
                if left + 1 < lefts:
                    self.assertGreater(left_begins(inner, left + 1), stage)
                if right + 1 < rights:
                    self.assertGreater(right_begins(inner, right + 1), stage)
                if right:
                    self.gives(min(right * near, lefts - 1 - (rights - 1 - right) // far), right_comes, inner, right)
        self.gives((2 ** 99, 2 ** 100, 2, 2), halves_of, WIDE)

    def test_few_sizes(self):
        for inner in ((), (2,), (12,), HUGE):
            self.refuses("inner", halves_of, inner)
            for function in (right_comes, rights_ahead, counts_at, left_begins, right_begins):
                self.refuses("inner", function, inner, None)
                self.refuses("inner", function, inner, 0)

    def test_refused(self):
        for wrong in (*NO_NUMBERS, 6):
            self.refuses("left", rights_ahead, (2, 2, 3), wrong)
            self.refuses("left", left_begins, (2, 2, 3), wrong)
            self.refuses("right", right_comes, (2, 2, 3), wrong)
            self.refuses("right", right_begins, (2, 2, 3), wrong)
            self.refuses("stage", counts_at, (2, 2, 3), wrong)
        self.gives((2, 6, 2, 3), halves_of, (2, 3, 2))
        self.gives((4, 3, 2, 3), halves_of, (2, 2, 3))
        self.refuses("right", right_comes, (2, 2, 3), 0)
        self.refuses("right", right_comes, (2, 2, 3), 3)
        self.refuses("right", right_begins, (2, 2, 3), 3)
        self.refuses("left", left_begins, (2, 2, 3), 4)
        self.refuses("stage", counts_at, (2, 2, 3), 10 ** 69)


if __name__ == "__main__":
    unittest.main()
