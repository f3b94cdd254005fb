"""[14]: rows by their numbers, and under other names."""

import itertools
import unittest

from stoodthen.rowtools import all_rows, renamed_row, row_by, row_number, rows_many, unlike_dials
from tests.samples import HUGE, WIDE, Promises

DIALS = (2, 3, 2)
ROWS = list(itertools.product((0, 1), (0, 1, 2), (0, 1)))


class Rows(Promises):

    def test_rows_many(self):
        self.gives(12, rows_many, DIALS)
        self.gives(2, rows_many, (2,))
        self.gives(2 ** 199, rows_many, WIDE)
        self.gives(10 ** 60, rows_many, HUGE)

    def test_numbers_of_rows(self):
        for number, row in enumerate(ROWS):
            self.gives(number, row_number, DIALS, row)
            self.gives(row, row_by, DIALS, number)

    def test_wide_numbers(self):
        self.gives(2 ** 199 - 1, row_number, WIDE, (1,) * 199)
        self.gives((1,) + (0,) * 198, row_by, WIDE, 2 ** 198)
        self.gives((10 ** 60 - 1,), row_by, HUGE, 10 ** 60 - 1)
        self.gives(tuple(int(figure) for figure in str(10 ** 59 + 7)), row_by, (10,) * 60, 10 ** 59 + 7)

    def test_all_rows(self):
        self.assertEqual(list(all_rows(DIALS)), ROWS)
        self.assertEqual(list(all_rows((2,))), [(0,), (1,)])
        self.assertEqual(len(list(all_rows((10, 10, 6)))), 600)
        rows = all_rows(dials=(2, 2))
        self.assertEqual((next(rows), next(rows)), ((0, 0), (0, 1)))
        self.assertIs(iter(rows), rows)

    def test_unlike_dials(self):
        for row, other in itertools.product(ROWS, ROWS):
            expected = tuple(dial for dial in range(3) if row[dial] != other[dial])
            self.gives(expected, unlike_dials, DIALS, row, other)
        self.gives((0, 198), unlike_dials, WIDE, (0,) * 199, (1,) + (0,) * 197 + (1,))

    def test_renamed_row(self):
        self.gives((1, 2, 0), renamed_row, DIALS, (0, 1, 0), ((1, 0), (0, 2, 1), (0, 1)))
        self.gives((0, 1, 1), renamed_row, DIALS, (1, 2, 1), ((1, 0), (0, 2, 1), (0, 1)))
        self.gives((1,) * 199, renamed_row, WIDE, (0,) * 199, ((1, 0),) * 199)

    def test_refused_rows_and_numbers(self):
        for row in (None, (0, 0), (0, 3, 0), (True, 0, 0), [0, 0, 0], (0, 0, -1)):
            self.refuses("row", row_number, DIALS, row)
            self.refuses("row", unlike_dials, DIALS, row, None)
            self.refuses("other", unlike_dials, DIALS, (0, 0, 0), row)
            self.refuses("row", renamed_row, DIALS, row, None)
        for number in (12, -1, True, False, None, "0", (0,), 10 ** 69):
            self.refuses("number", row_by, DIALS, number)
        self.refuses("number", row_by, HUGE, 10 ** 60)

    def test_refused_names(self):
        good = ((1, 0), (0, 2, 1), (0, 1))
        bad = [
            None, (), [], good[:2], (*good, (0, 1)), list(good), ((1, 1), *good[1:]), ((1, 2), *good[1:]),
            ((True, False), *good[1:]), ((1,), *good[1:]), ((1, 0, 0), *good[1:]), ([1, 0], *good[1:]),
            (*good[:2], (0, -1)), (*good[:2], (0, ())), (*good[:2], None), (*good[:2], (0, [1]))]
        for names in bad:
            self.refuses("names", renamed_row, DIALS, (0, 0, 0), names)
        self.refuses("names", renamed_row, HUGE, (0,), ((0, 1),))


if __name__ == "__main__":
    unittest.main()
