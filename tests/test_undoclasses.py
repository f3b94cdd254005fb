"""[72]: the work of a holding as an object, and works with another net hung on."""

import unittest

from stoodthen.heldmachines import held_machine
from stoodthen.heldrows import passed_row, rows_at
from stoodthen.holdkinds import is_holding, lets_holding
from stoodthen.nets import hung_on
from stoodthen.sinks import held_told
from stoodthen.undoclasses import Undo
from tests import plain, plainnets
from tests.heldsamples import BOTH_SHARED, HELD, TIED
from tests.samples import KITE, PAIR, POINT, RING, ROW, Promises

KINDS = (None, True, 0, "", (), [], (RING, (2, 2, 2), TIED))


def hung_entries(held, stage, other):
    """What each block of the whole is told by, block by block."""
    net, dials, holding = held
    entries = {}
    for lot, entry in zip(plain.blocks_of(net), holding):
        entries[lot] = entry
    for lot, (word, told) in zip(plain.blocks_of(other[0]), other[2]):
        there = tuple(sorted(stage if number == 0 else number - 1 + net[0] for number in lot))
        moved = told + len(dials) if word == "dial" else tuple(dial + len(dials) for dial in told)
        entries[there] = (word, moved)
    return tuple(entries[lot] for lot in plain.blocks_of(hung_on(net, stage, other[0])))


class Undos(Promises):

    def test_example(self):
        undo = Undo(ROW, (3,), BOTH_SHARED).hung(2, ROW, (3,), BOTH_SHARED)
        self.gives(((2, 1),), undo.rows, 3)

    def test_as_the_functions(self):
        for held in HELD:
            undo = Undo(*held)
            self.gives(lets_holding(*held), undo.spare)
            self.gives(held_machine(*held), undo.machine)
            for stage in range(held[0][0]):
                rows = rows_at(*held, stage)
                self.gives(rows, undo.rows, stage)
                for row in rows:
                    self.gives(held_told(*held, row), undo.told, row)
                    for there in range(held[0][0]):
                        if plainnets.tied(held[0], stage, there):
                            self.gives(passed_row(*held, row, stage, there), undo.passed, row, stage, there)

    def test_equal(self):
        undo = Undo(RING, (2, 2, 2), TIED)
        self.assertEqual(undo, Undo(RING, (2, 2, 2), TIED))
        self.assertTrue(undo == Undo((3, ((0, 1), (0, 2), (1, 2))), (2, 2, 2), (("ties", (0, 1, 2)),)))
        for other in (Undo(RING, (2, 2, 3), TIED), Undo(RING, (2, 2, 2), (("ties", (0, 2, 1)),)),
                      Undo(RING, (3,), (("dial", 0),)),
                      Undo(ROW, (3,), BOTH_SHARED), *KINDS):
            self.assertFalse(undo == other)
            self.assertTrue(undo != other)
        self.assertFalse(Undo(ROW, (3,), BOTH_SHARED) == Undo((3, ((0, 2), (1, 2))), (3,), BOTH_SHARED))

    def test_hung(self):
        for held in HELD[::2]:
            for other in HELD[1::3]:
                if held[0][0] + other[0][0] > 13 or len(held[1]) + len(other[1]) > 24:
                    continue
                for stage in {0, held[0][0] - 1, held[0][0] // 2}:
                    entries = hung_entries(held, stage, other)
                    whole = (hung_on(held[0], stage, other[0]), held[1] + other[1], entries)
                    self.gives(True, is_holding, *whole)
                    self.assertEqual(Undo(*held).hung(stage, *other), Undo(*whole))

    def test_hung_is_held_as_before(self):
        """The work of the whole shows the old dials as before, and those of the other one as in that."""
        for held, stage, other in ((HELD[13], 2, HELD[10]), (HELD[13], 0, HELD[11]), (HELD[24], 4, HELD[17]),
                                   (HELD[11], 1, HELD[5])):
            whole = Undo(*held).hung(stage, *other)
            for place in range(held[0][0]):
                self.assertEqual({row[:len(held[1])] for row in whole.rows(place)}, set(rows_at(*held, place)))
            for place in range(1, other[0][0]):
                rows = whole.rows(place - 1 + held[0][0])
                self.assertEqual({row[:len(held[1])] for row in rows}, set(rows_at(*held, stage)))
                self.assertEqual({row[len(held[1]):] for row in rows}, set(rows_at(*other, place)))

    def test_hung_where_blocks_change_their_places(self):
        undo = Undo(KITE, (2, 2, 2, 4), (("ties", (2, 1, 0)), ("dial", 3)))
        whole = undo.hung(0, RING, (5, 3), (("dial", 1),))
        self.assertEqual(whole, Undo(hung_on(KITE, 0, RING), (2, 2, 2, 4, 5, 3),
                                     (("ties", (2, 1, 0)), ("dial", 5), ("dial", 3))))
        self.assertEqual(undo.hung(3, POINT, (2,), ()), Undo(KITE, (2, 2, 2, 4, 2), (("ties", (2, 1, 0)), ("dial", 3))))
        self.assertEqual(Undo(POINT, (2,), ()).hung(0, PAIR, (2,), (("dial", 0),)), Undo(PAIR, (2, 2), (("dial", 1),)))

    def test_refused(self):
        for wrong in (None, True, 0, (), (3,), (3, ((0, 1),)), [3, ()], (3, ((0, 1), (1, 1)))):
            self.refuses("net", Undo, wrong, (3,), BOTH_SHARED)
            self.refuses("net", Undo, wrong, None, None)
        for wrong in (None, True, 0, (), (1,), [3], "3"):
            self.refuses("dials", Undo, ROW, wrong, BOTH_SHARED)
            self.refuses("dials", Undo, ROW, wrong, None)
        for wrong in (None, True, 0, (), list(BOTH_SHARED), BOTH_SHARED[:1], (("dial", 0), ("dial", 1))):
            self.refuses("holding", Undo, ROW, (3,), wrong)

    def test_methods_refuse(self):
        undo = Undo(RING, (2, 2, 2), TIED)
        for wrong in (None, True, -1, 3, "0", ()):
            self.refuses("stage", undo.rows, wrong)
            self.refuses("here", undo.passed, (0, 0, 0), wrong, 1)
            self.refuses("there", undo.passed, (0, 0, 0), 0, wrong)
        for wrong in (None, 0, (), (0, 0), (0, 0, 2), (True, 0, 0)):
            self.refuses("row", undo.passed, wrong, 0, 1)
            self.refuses("row", undo.told, wrong)
        self.refuses("row", undo.passed, (1, 0, 0), 0, 1)
        for wrong in (None, True, -1, 3, "0", ()):
            self.refuses("stage", undo.hung, wrong, ROW, (3,), BOTH_SHARED)
            self.refuses("stage", undo.hung, wrong, None, None, None)
        for wrong in (None, 0, (), (3, ((0, 1),)), [1, ()]):
            self.refuses("other", undo.hung, 2, wrong, (3,), BOTH_SHARED)
            self.refuses("other", undo.hung, 2, wrong, None, None)
        for wrong in (None, 0, (), (1,), [3]):
            self.refuses("more", undo.hung, 2, ROW, wrong, BOTH_SHARED)
            self.refuses("more", undo.hung, 2, ROW, wrong, None)
        for wrong in (None, 0, (), BOTH_SHARED[:1], list(BOTH_SHARED), (("dial", 0), ("dial", 3))):
            self.refuses("held", undo.hung, 2, ROW, (3,), wrong)
        self.assertEqual(undo, Undo(RING, (2, 2, 2), TIED))


if __name__ == "__main__":
    unittest.main()
