"""[70], [71], (G9): what beats readers of codes with a bare block."""

import itertools
import random
import unittest

from stoodthen.beatings import beating, lets_beating
from stoodthen.errors import InvalidPaper
from stoodthen.handed import bare_row
from stoodthen.machines import machine_by
from stoodthen.readerjudges import judged_reader
from stoodthen.readerruns import shown
from tests import plainnets
from tests.samples import HANDLE, ODD, PAIR, POINT, RING, ROW, SQUARE, Promises, random_reader
from tests.test_handed import CODES, LINED, PARTED

ASKS = (("look", 1, (1, 1)), ("tell", 1))
AROUND = (("look", 0, (1, 2)), ("look", 1, (0, 2)), ("look", 0, (0, 1)))
BARE = [code for code in CODES if code not in set(PARTED)]


def readers(seed, codes, many):
    rng = random.Random(seed)
    return [(*code, random_reader(rng, code[1], code[0][0] + 1, 6)) for code in codes for _ in range(many)]


class Beatings(Promises):

    def test_examples(self):
        self.gives(("told", (0,), (0,)), beating, RING, (2, 2), LINED, ASKS)
        self.gives(1, lets_beating, RING, (2, 2), LINED, ASKS, ("told", (0,), (0,)))

    def test_all_readers_are_beaten(self):
        words = {"endless": 0, "told": 0}
        lengths = set()
        for net, dials, rows, reader in readers(70, BARE[::2], 4):
            row = bare_row(net, dials, rows)
            steps, told = plainnets.shown(reader, row)
            paper = beating(net, dials, rows, reader)
            words[paper[0]] += 1
            if told is None:
                self.gives(("endless", steps), beating, net, dials, rows, reader)
            else:
                word, walk, moments = paper
                self.assertEqual((word, len(moments)), ("told", len(steps) - 1))
                self.assertEqual(plainnets.beats(net, rows, reader, walk, moments), told)
                for step, moment in zip(steps, moments):
                    dial = reader[step][1]
                    self.assertEqual(rows[walk[moment]][dial], row[dial])
                lengths.add(len(walk))
            self.gives(told, lets_beating, net, dials, rows, reader, paper)
            self.assertNotEqual(judged_reader(machine_by(net, dials, rows), reader), "right")
        self.assertGreater(min(words.values()), 100)
        self.assertGreater(len(lengths), 2)

    def test_stages_that_are_none(self):
        self.gives(9, lets_beating, RING, (2, 2), LINED, (("tell", 9),), beating(RING, (2, 2), LINED, (("tell", 9),)))
        for told in range(4):
            paper = beating(RING, (2, 2), LINED, (("tell", told),))
            self.assertEqual((paper[0], len(paper[1]), paper[2]), ("told", 1, ()))
            self.assertNotIn(told, paper[1])

    def test_the_stage_told_lies_behind_the_bare_block(self):
        """Who tells a stage outside of the bare block is beaten without its gate's other stages."""
        net, rows = HANDLE, ((0,), (1,), (0,), (1,), (0,))
        for told in range(5):
            for looks in range(3):
                reader = (*[("look", 0, (step + 1, step + 1)) for step in range(looks)], ("tell", told))
                _, walk, moments = beating(net, (2,), rows, reader)
                self.assertEqual(plainnets.beats(net, rows, reader, walk, moments), told)

    def test_the_walk_goes_around_the_stage_told(self):
        rows = ((0, 1), (0, 0), (1, 0), (1, 1))
        for told in (0, 1, 2, 3, 9):
            reader = (("look", 0, (1, 1)), ("look", 1, (2, 2)), ("tell", told))
            _, walk, found = beating(SQUARE, (2, 2), rows, reader)
            self.assertEqual(plainnets.beats(SQUARE, rows, reader, walk, found), told)
            self.assertNotIn(told, walk)
        # Stage 0 shows what dial 0 has to, stage 2 what dial 1 has to, and stage 1 is between them.
        reader = (("look", 0, (1, 1)), ("look", 1, (2, 2)), ("tell", 1))
        self.gives(("told", (0, 3, 2), (0, 2)), beating, SQUARE, (2, 2), rows, reader)

    def test_refused(self):
        for wrong in (None, True, 0, (), (1, 2), [2, 2], "22"):
            self.refuses("dials", beating, RING, wrong, LINED, ASKS)
            self.refuses("dials", beating, RING, wrong, None, None)
            self.refuses("dials", lets_beating, RING, wrong, None, None, None)
        for wrong in (None, True, 0, (), LINED[:2], list(LINED), ((0, 0), (1, 0), (1, 2)), ((0, 0), (1, 0), (1, True))):
            self.refuses("rows", beating, RING, (2, 2), wrong, ASKS)
            self.refuses("rows", beating, RING, (2, 2), wrong, None)
            self.refuses("rows", lets_beating, RING, (2, 2), wrong, None, None)
        for net, rows in ((ROW, LINED), (PAIR, ((0, 0), (1, 0))), (POINT, ((0, 0),))):
            self.refuses("rows", beating, net, (2, 2), rows, ASKS)
            self.refuses("rows", beating, net, (2, 2), rows, None)
        for wrong in (None, True, 0, (), list(ASKS), (("look", 2, (1, 1)), ("tell", 1)),
                      (("look", 1, (1, 2)), ("tell", 1)),
                      (("tell", True),)):
            self.refuses("reader", beating, RING, (2, 2), LINED, wrong)
            self.refuses("reader", lets_beating, RING, (2, 2), LINED, wrong, None)


class Papers(Promises):

    def test_any_code(self):
        """Codes without a bare block, too: who tells what never stood, or looks for ever."""
        self.gives(2, lets_beating, ROW, (2, 2), LINED, (("look", 0, (1, 1)), ("tell", 2)),
                   ("told", (0,), (0,)))
        self.gives(None, lets_beating, ROW, (2, 2), LINED, (("look", 0, (0, 1)), ("tell", 2)), ("endless", (0,)))
        self.gives(5, lets_beating, POINT, (2,), ((1,),), (("tell", 5),), ("told", (0,), ()))
        self.rejects("met", -1, lets_beating, POINT, (2,), ((1,),), (("tell", 0),), ("told", (0,), ()))

    def test_all_small_papers(self):
        """All walks and moments of at most three stages and looks."""
        found = {}
        for net, dials, rows, reader in readers(71, (PARTED + BARE)[::37], 1):
            if net[0] > 4:
                continue
            walks = [walk for many in range(1, 4) for walk in itertools.product(range(net[0]), repeat=many)]
            for walk in walks:
                for looks in range(4):
                    for moments in itertools.combinations_with_replacement(range(len(walk)), looks):
                        expected = self.refused(net, rows, reader, walk, moments)
                        found[expected[0]] = found.get(expected[0], 0) + 1
                        thing = ("told", walk, moments)
                        if expected[0] == "told":
                            self.assertEqual(plainnets.beats(net, rows, reader, walk, moments), expected[1])
                            self.gives(expected[1], lets_beating, net, dials, rows, reader, thing)
                        else:
                            self.assertIsNone(plainnets.beats(net, rows, reader, walk, moments))
                            self.rejects(expected[0], -1, lets_beating, net, dials, rows, reader, thing)
        self.assertEqual(set(found), {"walk", "moments", "end", "met", "told"})
        self.assertGreater(min(found.values()), 20)

    def refused(self, net, rows, reader, walk, moments):
        if not all(plainnets.tied(net, here, there) for here, there in zip(walk, walk[1:])):
            return ("walk",)
        if (moments == () and len(walk) > 1) or (moments and (moments[0], moments[-1]) != (0, len(walk) - 1)):
            return ("moments",)
        at = 0
        for moment in moments:
            if reader[at][0] == "tell":
                return ("moments",)
            at = reader[at][2][rows[walk[moment]][reader[at][1]]]
        if reader[at][0] == "look":
            return ("end",)
        return ("met",) if reader[at][1] in walk else ("told", reader[at][1])

    def test_shape(self):
        for thing in (*ODD, ("told", (0,)), ("told", (0,), (0,), 0), ("endless",), ("endless", (0,), 0),
                      ["told", (0,), (0,)],
                      ("Told", (0,), (0,)), ("endless", (0,), (0,)), ("told", (0,)), ((0,), (0,)), (0, (0,), (0,))):
            self.rejects("shape", -1, lets_beating, RING, (2, 2), LINED, ASKS, thing)

    def test_walk(self):
        for wrong in (None, True, 0, (), [0], "0", (3,), (True,), (-1,), (0, 0), (0, True), ((0,),), (0, 10 ** 69)):
            self.rejects("walk", -1, lets_beating, RING, (2, 2), LINED, ASKS, ("told", wrong, (0,)))
            self.rejects("walk", -1, lets_beating, RING, (2, 2), LINED, ASKS, ("told", wrong, None))
        self.rejects("walk", -1, lets_beating, ROW, (2, 2), LINED, ASKS, ("told", (0, 2), (0, 1)))

    def test_moments(self):
        for wrong in (None, True, 0, [0], "0", (1,), (True,), (False,), (-1,), (None,), ((0,),), (0, 1), (0, 0)):
            self.rejects("moments", -1, lets_beating, RING, (2, 2), LINED, ASKS, ("told", (0,), wrong))
        for wrong in ((), (0,), (1,), (0, 2), (1, 1), (0, 0), (1, 0), (0, 1, 0)):
            self.rejects("moments", -1, lets_beating, RING, (2, 2), LINED, AROUND[:1] + (("tell", 0),) * 2,
                         ("told", (1, 2), wrong))

    def test_moments_behind_the_telling(self):
        for thing in (("told", (0,), (0,)), ("told", (0, 1), (0, 1)), ("told", (1,), (0,))):
            self.rejects("moments", -1, lets_beating, RING, (2, 2), LINED, (("tell", 0),), thing)
        self.rejects("moments", -1, lets_beating, RING, (2, 2), LINED, ASKS, ("told", (0,), (0, 0)))

    def test_end_and_met(self):
        self.rejects("end", -1, lets_beating, RING, (2, 2), LINED, ASKS, ("told", (0,), ()))
        self.rejects("end", -1, lets_beating, RING, (2, 2), LINED, AROUND, ("told", (0, 1), (0, 1)))
        self.rejects("met", -1, lets_beating, RING, (2, 2), LINED, ASKS, ("told", (1,), (0,)))
        self.rejects("met", -1, lets_beating, RING, (2, 2), LINED, (("tell", 2),), ("told", (2,), ()))
        reader = (("look", 0, (1, 1)), ("look", 0, (2, 2)), ("tell", 2))
        self.rejects("met", -1, lets_beating, RING, (2, 2), LINED, reader, ("told", (0, 2, 1), (0, 2)))

    def test_all_runs_that_never_end(self):
        found = 0
        for net, dials, rows, reader in readers(72, (PARTED + BARE)[::11], 2):
            endless = plainnets.endless_runs(dials, rows, reader)
            found += len(endless)
            for many in range(1, 5):
                for steps in itertools.permutations(range(len(reader)), many):
                    if steps in endless:
                        self.gives(None, lets_beating, net, dials, rows, reader, ("endless", steps))
                    else:
                        self.rejects("steps", -1, lets_beating, net, dials, rows, reader, ("endless", steps))
        self.assertGreater(found, 100)

    def test_steps(self):
        reader = (("look", 0, (1, 2)), ("look", 1, (0, 2)), ("look", 0, (0, 1)))
        rows = ((0, 1), (1, 1), (0, 1))
        # Dial 0 shows 0 and 1, dial 1 always 1: with 0, then 1, the steps 0, 1, 2 come again.
        self.gives(None, lets_beating, ROW, (2, 2), rows, reader, ("endless", (0, 1, 2)))
        self.gives(None, lets_beating, ROW, (2, 2), rows, reader, ("endless", (0, 2, 1)))
        for wrong in ((0, 1), (0, 2), (0,), (), (1, 0), (0, 1, 2, 0), (0, 0), (0, 1, 1), (1, 2), (0, 3), (0, -1),
                      (0, True, 2),
                      (False, 1, 2), [0, 1, 2], None, True, 0, "012", (0, None), ((0,),), (0, 10 ** 69)):
            self.rejects("steps", -1, lets_beating, ROW, (2, 2), rows, reader, ("endless", wrong))

    def test_values_of_a_row_are_the_same_all_along(self):
        reader = (("look", 0, (1, 2)), ("look", 0, (2, 0)), ("look", 0, (2, 0)))
        rows = ((0, 0), (1, 0), (1, 1))
        self.gives(None, lets_beating, ROW, (2, 2), rows, reader, ("endless", (0, 1, 2)))
        self.gives(None, lets_beating, ROW, (2, 2), rows, reader, ("endless", (0, 2)))
        self.rejects("steps", -1, lets_beating, ROW, (2, 2), rows, reader, ("endless", (0, 1)))
        # A value that no stage has, but a row may have.
        self.rejects("steps", -1, lets_beating, PAIR, (3,), ((0,), (1,)), (("look", 0, (1, 1, 0)), ("tell", 0)),
                     ("endless", (0,)))
        self.assertEqual(shown((3,), (("look", 0, (1, 1, 0)), ("tell", 0)), (2,)), ((0,), None))
        self.rejects("steps", -1, lets_beating, PAIR, (2,), ((0,), (1,)), (("tell", 0),), ("endless", (0,)))

    def test_what_is_accepted_beats(self):
        for net, dials, rows, reader in readers(73, CODES[::9], 2):
            for paper in (("endless", (0,)), ("endless", (0, 1)), ("told", (0,), ()), ("told", (0,), (0,)),
                          ("told", (0, 1), (0, 1))):
                try:
                    lets_beating(net, dials, rows, reader, paper)
                except InvalidPaper:
                    continue
                self.assertNotEqual(judged_reader(machine_by(net, dials, rows), reader), "right")


if __name__ == "__main__":
    unittest.main()
