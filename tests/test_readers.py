"""[6], [19]: readers, their checker, and what they do when shown one row."""

import itertools
import unittest

from stoodthen.readerchecker import lets_reader
from stoodthen.readerruns import shown, told_stages, tour_of
from tests.samples import HUGE, ODD, WIDE, Promises, random_reader, samples

DIALS = (2, 3)
GOOD = (("look", 1, (1, 2, 0)), ("look", 0, (3, 2)), ("tell", 7), ("tell", 0))
READERS = samples(random_reader, 80, DIALS)


class Checker(Promises):

    def test_readers(self):
        for reader in (GOOD, (("tell", 0),), (("tell", 10 ** 69),), *READERS):
            self.gives(len(reader), lets_reader, DIALS, reader)
        self.gives(1, lets_reader, DIALS, (("look", 0, (0, 0)),))

    def test_limits_do_not_count(self):
        self.gives(1000, lets_reader, WIDE, (("look", 198, (999, 0)),) * 1000)
        self.rejects("nexts", 0, lets_reader, HUGE, (("look", 0, (0, 0)),))

    def test_shape(self):
        for thing in (None, (), [], list(GOOD), 0, "", True):
            self.rejects("shape", -1, lets_reader, DIALS, thing)

    def test_each_step(self):
        many = len(GOOD)
        wrong = [("shape", step) for step in ODD if not (isinstance(step, tuple) and step[:1] == ("tell",))]
        wrong += [("shape", step) for step in (
            ("tell",), ("tell", 0, 0), ("look", 0), ("look", 0, (0, 0), 0), ("tells", 0), ("Look", 0, (0, 0)),
            (0, 0, (0, 0)), ("tell", 0, (0, 0)), ("look", 0), ["tell", 0], ["look", 0, (0, 0)], (("tell",), 0))]
        wrong += [("dial", ("look", dial, None)) for dial in (2, -1, True, False, None, "0", (0,))]
        wrong += [("nexts", ("look", 0, nexts)) for nexts in (
            None, (), (0,), (0, 0, 0), [0, 0], (0, many + 2), (-1, 0), (True, 0), (0, None), 0, "00")]
        wrong += [("nexts", ("look", 1, (0, 0)))]
        wrong += [("stage", ("tell", stage)) for stage in (-1, True, False, None, "0", (0,), [])]
        for word, step in wrong:
            self.rejects(word, 0, lets_reader, DIALS, (step, None))
            self.rejects(word, many, lets_reader, DIALS, (*GOOD, step, None))


class Runs(Promises):

    def test_shown(self):
        self.gives(((0, 2), 7), shown, DIALS, GOOD, (0, 1))
        self.gives(((0, 1, 3), 0), shown, DIALS, GOOD, (0, 0))
        self.gives(((0, 1, 2), 7), shown, DIALS, GOOD, (1, 0))
        self.gives(((0,), None), shown, DIALS, GOOD, (1, 2))
        self.gives(((0,), 5), shown, DIALS, (("tell", 5),), (0, 0))
        ring = (("look", 0, (2, 1)), ("look", 1, (0, 0, 2)), ("look", 1, (1, 1, 0)))
        self.gives(((0, 2, 1), None), shown, DIALS, ring, (0, 0))
        self.gives(((0, 1), None), shown, DIALS, ring, (1, 0))

    def test_tours(self):
        self.gives((1,), tour_of, DIALS, GOOD, (0, 1))
        self.gives((1, 0), tour_of, DIALS, GOOD, (0, 0))
        self.gives((1,), tour_of, DIALS, GOOD, (1, 2))
        self.gives((), tour_of, DIALS, (("tell", 5),), (0, 0))

    def test_told_stages(self):
        self.gives((0, 7), told_stages, DIALS, GOOD)
        self.gives((), told_stages, DIALS, (("look", 0, (0, 0)),))
        self.gives((1, 8, 16), told_stages, DIALS, (("tell", 16), ("tell", 8), ("tell", 1)))
        self.gives((3, 10 ** 69), told_stages, DIALS, (("tell", 10 ** 69), ("tell", 3), ("tell", 3)))

    def test_beside_plain_runs(self):
        for reader in READERS:
            for row in itertools.product(range(2), range(3)):
                steps, at = [], 0
                while at not in steps and reader[at][0] == "look":
                    steps.append(at)
                    at = reader[at][2][row[reader[at][1]]]
                tour = tuple(reader[step][1] for step in steps)
                told = None
                if at not in steps:
                    steps.append(at)
                    told = reader[at][1]
                self.gives((tuple(steps), told), shown, DIALS, reader, row)
                self.gives(tour, tour_of, DIALS, reader, row)

    def test_refused(self):
        readers = [None, (), [], list(GOOD), 0, (("look", 0, (0, 1)),), (("tell", True),), (("look", 2, (0, 0)),)]
        for reader in readers:
            for function in (shown, tour_of):
                self.refuses("reader", function, DIALS, reader, None)
            self.refuses("reader", told_stages, DIALS, reader)
        for row in (None, (), (0,), (0, 0, 0), (2, 0), (True, 0), [0, 0]):
            for function in (shown, tour_of):
                self.refuses("row", function, DIALS, GOOD, row)


if __name__ == "__main__":
    unittest.main()
