"""[76]: told stages that fall, and what is told by who remembers."""

import random
import unittest

from stoodthen.falls import fall_depth, fallen_pairs, remembered
from tests.samples import ODD, Promises

FALL = ((1, 1, 1, (1,), 1), (0, 2, 2, (0,), 0), (1, 3, 3, (0,), 0))


def drawn(seed):
    rng = random.Random(seed)
    rows = []
    for _ in range(rng.choice((1, 2, 5, 9, 60 if seed == 0 else 12))):
        begin = rng.randrange(20)
        view = tuple(rng.randrange(3) for _ in range(rng.randrange(3)))
        rows.append((rng.randrange(3), begin, begin + rng.choice((0, 0, 1, 2, 7)), view, rng.randrange(6)))
    return tuple(rows)


ROWS = [drawn(seed) for seed in range(80)]


class Falls(Promises):

    def test_examples(self):
        self.gives(((0, 1), (0, 2)), fallen_pairs, FALL)
        self.gives((1, 0, 1), remembered, FALL)
        self.gives(1, fall_depth, FALL)

    def test_no_rows(self):
        self.gives((), fallen_pairs, ())
        self.gives(0, fall_depth, ())
        self.gives((), remembered, ())

    def test_drawn_rows(self):
        depths = set()
        for rows in ROWS:
            pairs = []
            for k, row in enumerate(rows):
                for j, other in enumerate(rows):
                    if row[2] < other[1] and row[4] > other[4]:
                        pairs.append((k, j))
            self.gives(tuple(pairs), fallen_pairs, rows)
            depth = max([rows[k][4] - rows[j][4] for k, j in pairs], default=0)
            depths.add(depth)
            self.gives(depth, fall_depth, rows)
            told = tuple(max(other[4] for other in rows[:k + 1] if other[0] == row[0]) for k, row in enumerate(rows))
            self.gives(told, remembered, rows)
        self.assertEqual(depths, set(range(6)))

    def test_edges(self):
        for row, other, pairs in (
                ((0, 0, 1, (), 5), (0, 1, 2, (), 4), ()), ((0, 0, 1, (), 5), (0, 2, 2, (), 4), ((0, 1),)),
                ((0, 0, 1, (), 5), (0, 2, 2, (), 5), ()), ((0, 2, 2, (), 4), (0, 0, 1, (), 5), ((1, 0),)),
                ((0, 0, 0, (), 10 ** 69), (7, 10 ** 69, 10 ** 69, (), 0), ((0, 1),))):
            self.gives(pairs, fallen_pairs, (row, other))
            self.gives(abs(row[4] - other[4]) if pairs else 0, fall_depth, (row, other))
        self.gives((0, 3, 3, 3), remembered, ((1, 0, 0, (), 0), (2, 0, 0, (), 3), (2, 0, 0, (), 1), (2, 0, 0, (9,), 3)))

    def test_refused(self):
        good = (1, 1, 2, (0,), 3)
        wrong = [None, True, 0, "", [], [good], good, (good, None), ((good,),), (good, list(good)), (good[:4],),
                 ((*good, 0),),
                 (good, (1, 2, 1, (0,), 3)), ((1, 1, 1, [0], 3),), ((1, 1, 1, 0, 3),), ((1, 1, 1, (None,), 3),),
                 ((1, 1, 1, (-1,), 3),), ((1, 1, 1, (True,), 3),), ((1, 1, 1, (0, (0,)), 3),)]
        for place in (0, 1, 2, 4):
            for thing in (None, True, False, -1, "0", (), (0,)):
                wrong.append((good, (*good[:place], thing, *good[place + 1:])))
        wrong += [thing for thing in ODD if thing != () or not isinstance(thing, tuple)]
        for rows in wrong:
            for function in (fallen_pairs, fall_depth, remembered):
                self.refuses("rows", function, rows)


if __name__ == "__main__":
    unittest.main()
