"""[73]: slices of lines and of nets."""

import itertools
import unittest

from stoodthen.slicekinds import is_pass, is_slice, is_slices
from tests import plainruns
from tests.samples import ODD, Promises

ENTRIES = ("go", "begin", "end", "look", "halt", "pass", "old", "new", "", "Go", 0, 7, 10 ** 69, -1, True, None, ())
THINGS = [thing for many in range(4) for thing in itertools.product(ENTRIES, repeat=many)]
LINE = (("go",), ("begin",), ("end",), ("look", 0, "old"), ("look", 3, "new"), ("halt", 0))
NET = (("pass", 0), ("begin", 3), ("end",), ("look", 0, "new"), ("halt", 10 ** 69))


class Slices(Promises):

    def test_each_kind(self):
        for piece in LINE:
            self.gives(True, is_slice, piece)
        for piece in NET:
            self.gives(True, is_pass, piece)
        for piece in (("go",), ("begin",)):
            self.gives(False, is_pass, piece)
        for piece in (("pass", 0), ("begin", 3)):
            self.gives(False, is_slice, piece)

    def test_all_small_tuples(self):
        found = [0, 0]
        for thing in THINGS:
            line, net = plainruns.is_slice(thing), plainruns.is_pass(thing)
            found = [found[0] + line, found[1] + net]
            self.gives(line, is_slice, thing)
            self.gives(net, is_pass, thing)
        self.assertEqual(found, [2 + 1 + 6 + 3, 3 + 3 + 1 + 6 + 3])

    def test_any_values(self):
        for thing in (*ODD, ["go"], "go", ("go",) * 4, ("look", 0, "old", 0), ("look", 0, ["old"]),
                      ("look", 0, ("old",)),
                      ("look", (0,), "old"), ("halt", "0"), (("go",),), ("look", 0, 1), ("end", 0), ("halt",),
                      ("pass",)):
            self.gives(False, is_slice, thing)
            self.gives(False, is_pass, thing)

    def test_tuples_of_slices(self):
        self.gives(True, is_slices, ())
        self.gives(True, is_slices, LINE)
        self.gives(True, is_slices, NET)
        self.gives(True, is_slices, LINE[2:])
        self.gives(True, is_slices, (*NET[2:], *LINE))
        for wrong in (list(LINE), LINE + NET[:1], (*NET, ("go",)), (("begin",), ("begin", 0)), (*LINE, None), ((),),
                      (LINE,),
                      ("go",), None, True, 0, "", "go", [], {}):
            self.gives(False, is_slices, wrong)
        for one, other in itertools.product((*LINE, *NET), repeat=2):
            same = (plainruns.is_slice(one) and plainruns.is_slice(other)) or (
                plainruns.is_pass(one) and plainruns.is_pass(other))
            self.gives(same, is_slices, (one, other))
        for thing in ODD:
            self.gives(isinstance(thing, tuple) and thing == (), is_slices, thing)
            self.gives(False, is_slices, (*LINE, thing))


if __name__ == "__main__":
    unittest.main()
