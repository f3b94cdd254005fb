"""[80]: slices as lines of text."""

import itertools
import unittest

from stoodthen.errors import InvalidRow, InvalidText
from stoodthen.runtexts import read_slices, slice_line, slices_text
from tests.samples import ODD, Promises
from tests.test_lineruns import RUNS
from tests.test_runpapers import LINE, NET
from tests.test_undoruns import RUNS as NET_RUNS

PIECES = {"go": ("go",), "begin": ("begin",), "end": ("end",), "look 0 old": ("look", 0, "old"),
          "halt 12": ("halt", 12),
          "look 10 new": ("look", 10, "new"), "pass 0": ("pass", 0), "begin 3": ("begin", 3),
          "pass 1" + "0" * 69: ("pass", 10 ** 69)}
# Lines that are none of a slice, and the first field that can't stand.
WRONG = {"": 0, " ": 0, "x": 0, "0": 0, "Go": 0, "go ": 1, "go 0": 1, " go": 0, "end ": 1, "end end": 1, "begin ": 1,
         "begin x": 1,
         "begin 00": 1, "begin 01": 1, "begin -1": 1, "begin 1 ": 2, "begin 1 2": 2, "begin 1;": 1, "pass": 1,
         "pass ": 1, "pass x": 1,
         "pass 1 1": 2, "pass 01": 1, "halt": 1, "halt +1": 1, "halt 1 old": 2, "look": 1, "look ": 1, "look x": 1,
         "look 0": 2,
         "look 0 ": 2, "look 0 Old": 2, "look 0 0": 2, "look old": 1, "look 00 old": 1, "look 0 old ": 3,
         "look 0 old 0": 3,
         "look  0 old": 1, "look 0  old": 2, "go;": 0, "look 1.0 old": 1, "old": 0, "new": 0, "gone": 0, "()": 0}


class Texts(Promises):

    def test_examples(self):
        self.gives("begin 2\nlook 0 old", slices_text, (("begin", 2), ("look", 0, "old")))
        self.fails(InvalidText, (1, 1), read_slices, "go\nlook 00 old")

    def test_lines(self):
        for line, piece in PIECES.items():
            self.gives(line, slice_line, piece)
            self.gives(line, slices_text, (piece,))
            self.gives((piece,), read_slices, line)

    def test_no_lines(self):
        self.gives("", slices_text, ())
        self.gives((), read_slices, "")

    def test_read_as_written(self):
        for slices in (LINE, NET, *[tuple(run.log) for _, run in RUNS[::4] + NET_RUNS[::4]]):
            self.gives(slices, read_slices, slices_text(slices))
            self.assertEqual(slices_text(slices).split("\n"), [slice_line(piece) for piece in slices])

    def test_fields_that_cannot_stand(self):
        for line, field in WRONG.items():
            if line:
                self.fails(InvalidText, (0, field), read_slices, line)
            for ahead in ("go", "end", "pass 1"):
                self.fails(InvalidText, (1, field), read_slices, ahead + "\n" + line)
                self.fails(InvalidText, (2, field), read_slices, ahead + "\nend\n" + line + "\nx")
        self.fails(InvalidText, (1, 0), read_slices, "go\n")
        self.fails(InvalidText, (0, 0), read_slices, "\ngo")
        self.fails(InvalidText, (0, 0), read_slices, "\n")
        self.fails(InvalidText, (1, 0), read_slices, "go\n\ngo")

    def test_lines_and_nets_mixed(self):
        lines = list(PIECES.items())
        for picked in itertools.product(lines, repeat=3):
            pieces = [piece for _, piece in picked]
            text = "\n".join(line for line, _ in picked)
            mixed = [place for place in range(3) if self.unlike(pieces[:place + 1])]
            if mixed:
                self.fails(InvalidRow, (mixed[0],), read_slices, text)
            else:
                self.gives(tuple(pieces), read_slices, text)

    def unlike(self, pieces):
        words = [(piece[0], len(piece)) for piece in pieces]
        return bool({("go", 1), ("begin", 1)} & set(words)) and bool({("pass", 2), ("begin", 2)} & set(words))

    def test_fields_come_before_mixed_lines(self):
        self.fails(InvalidText, (2, 0), read_slices, "go\npass 1\nx")
        self.fails(InvalidText, (2, 2), read_slices, "begin\nbegin 1\nbegin 1 1")
        self.fails(InvalidRow, (1,), read_slices, "begin\nbegin 1\nbegin")
        self.fails(InvalidRow, (4,), read_slices, "end\npass 1\nend\nhalt 0\ngo\npass 1")

    def test_refused(self):
        for thing in (*ODD, ["go"], "go", ("go", 0), ("look", 0, "older"), ("pass",), ("begin", True), ("begin", 1, 1)):
            self.refuses("piece", slice_line, thing)
            self.refuses("slices", slices_text, (("end",), thing))
        for wrong in (None, True, 0, "", "go", [], list(LINE), ("go",), LINE + NET):
            self.refuses("slices", slices_text, wrong)
        for wrong in (None, True, 0, (), [], ("go",), ["go"], 10 ** 69):
            self.refuses("text", read_slices, wrong)


if __name__ == "__main__":
    unittest.main()
