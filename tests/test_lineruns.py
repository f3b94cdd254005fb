"""[74], [75]: slices of lines done one after the other, what looks see, and the watches that end."""

import random
import unittest

from stoodthen.errors import InvalidEvent
from stoodthen.lineruns import line_run, standing, stood_between
from stoodthen.nestkinds import nest_held, nest_tour
from stoodthen.nestrows import row_at
from stoodthen.weakruns import dial_shows, line_reason
from tests import plainruns
from tests.samples import NEST, ODD, SMALL_NESTS, WIDE, WIDE_NESTS, Promises

EARLY = (("go",), ("begin",), ("look", 0, "new"), ("look", 0, "new"), ("look", 0, "old"), ("end",))
ONE = ((), (2,))
SHORT = [nest for nest in SMALL_NESTS if len(nest_tour(nest)) <= 5]
RUNS = [(nest, plainruns.line_slices(place, nest)) for place, nest in enumerate(SHORT[::2])]
RUNS += [(nest, plainruns.line_slices(900 + seed, nest, 60)) for nest in (NEST, ((2, 2), ()), ((), (3,)))
         for seed in range(6)]
ASKED = (("go",), ("begin",), ("end",), ("look", 0, "old"), ("look", 1, "new"), ("look", 2, "old"), ("look", 3, "new"),
         ("halt", 0), ("halt", 1), ("halt", 3), ("pass", 1), ("begin", 1), None, (), "go")
NO_SLICES = (None, True, 0, "", [], "go", ("go",), (("pass", 1),), ((),), (None,), [("go",)])


class Reasons(Promises):

    def test_example(self):
        self.gives("turning", line_reason, ONE, 1, (("begin",),), ("go",))
        self.gives(1, dial_shows, ONE, (("begin",),), 0, "new")

    def test_behind_each_slice(self):
        found = {}
        for nest, run in RUNS:
            again = plainruns.Line(nest, 3)
            for place, piece in enumerate((*run.log, None)):
                if place % 9 == len(run.log) % 9:
                    for asked in ASKED:
                        reason = again.barred(asked)
                        found[reason] = found.get(reason, 0) + 1
                        self.gives(reason, line_reason, nest, 3, tuple(again.log), asked)
                if piece is not None:
                    again.do(piece)
        self.assertEqual(set(found), {None, "shape", "who", "turning", "last", "still", "halted"})
        self.assertGreater(min(found.values()), 25)

    def test_any_value(self):
        for thing in (*ODD, ("pass", 0), ("begin", 0), ("look", 0), ("halt",), ("go", 0)):
            self.gives("shape", line_reason, NEST, 1, (), thing)
            self.gives("shape", line_reason, NEST, 0, (("begin",),), thing)

    def test_which_comes_first(self):
        begun = (("begin",),)
        self.gives("shape", line_reason, NEST, 0, begun, ("look", 0, "older"))
        self.gives("who", line_reason, NEST, 0, (), ("look", 0, "old"))
        self.gives("who", line_reason, NEST, 0, (), ("halt", 0))
        self.gives("who", line_reason, NEST, 1, (("halt", 0),), ("halt", 1))
        self.gives(None, line_reason, NEST, 2, (("halt", 0),), ("halt", 1))
        self.gives("halted", line_reason, NEST, 1, (("halt", 0),), ("halt", 0))
        self.gives("halted", line_reason, NEST, 1, (("halt", 0),), ("look", 0, "new"))
        self.gives("turning", line_reason, ONE, 0, begun, ("go",))
        self.gives("turning", line_reason, ONE, 0, begun, ("begin",))
        self.gives("last", line_reason, ONE, 0, (*begun, ("end",)), ("go",))
        self.gives("last", line_reason, ONE, 0, (("go",),), ("begin",))
        self.gives("still", line_reason, ONE, 0, (), ("end",))
        self.gives("still", line_reason, ONE, 0, (("go",),), ("end",))
        self.gives(None, line_reason, ONE, 0, begun, ("end",))
        self.gives(None, line_reason, ONE, 0, (), ("go",))

    def test_each_number_is_a_reader_without_many(self):
        slices = (("look", 10 ** 60, "old"), ("halt", 7), ("begin",))
        self.gives((0, 1), standing, ONE, slices)
        self.gives(0, dial_shows, ONE, slices, 0, "old")
        self.gives((0, 0), stood_between, ONE, slices, 0, 1)
        self.refuses("slices", line_reason, ONE, 7, slices, ("end",))
        self.refuses("slices", line_reason, ONE, 10 ** 60, slices, ("end",))
        self.gives(None, line_reason, ONE, 10 ** 60 + 1, slices, ("end",))

    def test_refused(self):
        for wrong in (None, True, -1, "1", (), [0]):
            self.refuses("many", line_reason, NEST, wrong, (), ("go",))
            self.refuses("many", line_reason, NEST, wrong, None, None)
        for wrong in (*NO_SLICES, (("end",),), (("begin",), ("go",)), (("go",),) * 4, (("look", 1, "old"),),
                      (("halt", 0),) * 2):
            self.refuses("slices", line_reason, NEST, 1, wrong, ("go",))
            self.refuses("slices", line_reason, NEST, 1, wrong, None)
        self.gives("last", line_reason, NEST, 1, (("go",),) * 3, ("go",))


class Shows(Promises):

    def test_behind_each_slice(self):
        turning = 0
        for nest, run in RUNS:
            again = plainruns.Line(nest)
            for place, piece in enumerate((*run.log, None)):
                if place % 6 == len(run.log) % 6:
                    for dial in range(len(nest[0]) + len(nest[1])):
                        for shade in ("old", "new"):
                            self.gives(again.shows(dial, shade), dial_shows, nest, tuple(again.log), dial, shade)
                        turning += again.shows(dial, "old") != again.shows(dial, "new")
                if piece is not None:
                    again.do(piece)
        self.assertGreater(turning, 100)

    def test_refused(self):
        for wrong in (*NO_SLICES, (("end",),), (("go",),) * 4):
            self.refuses("slices", dial_shows, NEST, wrong, 0, "old")
            self.refuses("slices", dial_shows, NEST, wrong, None, None)
        for wrong in (None, True, -1, 2, "0", ()):
            self.refuses("dial", dial_shows, NEST, (), wrong, "old")
            self.refuses("dial", dial_shows, NEST, (), wrong, None)
        for wrong in (None, True, 0, "", "older", "Old", ("old",), ["new"], ()):
            self.refuses("shade", dial_shows, NEST, (), 0, wrong)


class Runs(Promises):

    def test_examples(self):
        self.gives(((0, 2, 4, (1, 1, 0), 2),), line_run, ((2,), (2,)), 1, EARLY)
        self.gives((1, 2), stood_between, ((2,), (2,)), EARLY, 0, 4)

    def test_beside_a_plain_run(self):
        rows = 0
        for nest, run in RUNS:
            rows += len(run.rows)
            self.gives(tuple(run.rows), line_run, nest, 3, tuple(run.log))
            for many in range(0, len(run.log), 7):
                again = plainruns.Line(nest, 3)
                for piece in run.log[:many]:
                    again.do(piece)
                self.gives(tuple(again.rows), line_run, nest, 4, tuple(again.log))
        self.assertGreater(rows, 300)

    def test_the_first_slice_that_is_barred(self):
        rng = random.Random(75)
        found = set()
        for nest, run in RUNS:
            for _ in range(4):
                place = rng.randrange(len(run.log) + 1)
                again = plainruns.Line(nest, 3)
                for piece in run.log[:place]:
                    again.do(piece)
                piece = rng.choice(ASKED)
                reason = again.barred(piece)
                if reason is not None:
                    found.add(reason)
                    self.fails(InvalidEvent, (piece, reason), line_run, nest, 3, (*run.log[:place], piece, None))
        self.assertEqual(found, {"shape", "who", "turning", "last", "still", "halted"})
        thing = [("go",)]
        with self.assertRaises(InvalidEvent) as caught:
            line_run(NEST, 1, (("go",), thing))
        self.assertIs(caught.exception.event, thing)

    def test_no_slices(self):
        self.gives((), line_run, NEST, 0, ())
        self.gives((0, 0), standing, NEST, ())
        self.refuses("begin", stood_between, NEST, (), 0, 0)

    def test_a_turn_that_lasts(self):
        slices = (("begin",), *[("look", 0, "new"), ("look", 1, "old")] * 3)
        self.gives(((0, 1, 1, (1,), 1), (1, 2, 2, (0,), 0), (0, 3, 3, (1,), 1), (1, 4, 4, (0,), 0), (0, 5, 5, (1,), 1),
                    (1, 6, 6, (0,), 0)), line_run, ONE, 2, slices)
        self.gives((0, 1), standing, ONE, slices)
        self.gives((0, 1), stood_between, ONE, slices, 6, 6)

    def test_halted_readers_end_no_watch(self):
        slices = (("look", 0, "old"), ("look", 1, "old"), ("halt", 0), ("look", 1, "old"), ("look", 1, "new"))
        self.gives(((1, 1, 4, (0, 0, 0), 0),), line_run, NEST, 2, slices)

    def test_standing(self):
        for nest, run in RUNS[::2]:
            slices = tuple(run.log)
            for many in range(0, len(slices) + 1, 9):
                stood = run.stood[many - 1] if many else (0,)
                self.gives((stood[0], stood[-1]), standing, nest, slices[:many])
            for begin in range(0, len(slices), 11):
                for end in range(begin, len(slices), 6):
                    stood = [stage for stages in run.stood[begin:end + 1] for stage in stages]
                    self.gives((min(stood), max(stood)), stood_between, nest, slices, begin, end)

    def test_stood_is_told_behind_the_slices(self):
        slices = (("go",), ("begin",), ("end",), ("go",))
        for begin, end, stood in ((0, 0, (1, 1)), (0, 1, (1, 2)), (1, 1, (1, 2)), (2, 2, (2, 2)), (1, 2, (1, 2)),
                                  (2, 3, (2, 3)),
                                  (3, 3, (3, 3)), (0, 3, (1, 3))):
            self.gives(stood, stood_between, NEST, slices, begin, end)

    def test_refused(self):
        for wrong in (None, True, -1, "1", (), [0]):
            self.refuses("many", line_run, NEST, wrong, ())
            self.refuses("many", line_run, NEST, wrong, None)
        for wrong in (None, True, 0, "", [], "go", [("go",)]):
            self.refuses("slices", line_run, NEST, 1, wrong)
        for wrong in (*NO_SLICES, (("end",),), (("go",),) * 4, (("halt", 0), ("halt", 0))):
            self.refuses("slices", standing, NEST, wrong)
            self.refuses("slices", stood_between, NEST, wrong, 0, 0)
            self.refuses("slices", stood_between, NEST, wrong, None, None)
        for wrong in (None, True, -1, "0", (), 6, 10 ** 69):
            self.refuses("begin", stood_between, NEST, EARLY, wrong, 5)
            self.refuses("begin", stood_between, NEST, EARLY, wrong, None)
            self.refuses("end", stood_between, NEST, EARLY, 0, wrong)
        self.refuses("end", stood_between, NEST, EARLY, 3, 2)
        self.gives((1, 2), stood_between, NEST, EARLY, 3, 3)


class Guarantees(Promises):

    def test_told_stages_stood(self):
        for nest, run in RUNS:
            slices = tuple(run.log)
            told = {}
            for who, begin, end, _, stage in line_run(nest, 3, slices):
                first, last = stood_between(nest, slices, begin, end)
                self.assertTrue(first <= stage <= last)
                # Who tells the greater one of what it told last and its new answer is right, too.
                told[who] = max(stage, told.get(who, 0))
                self.assertTrue(first <= told[who] <= last)

    def test_answers_fall_back_by_one_stage_within_one_turn_at_most(self):
        falls = 0
        for nest, run in RUNS:
            rows = line_run(nest, 3, tuple(run.log))
            for _, _, end, _, stage in rows:
                for _, begin, _, _, other in rows:
                    if end < begin and stage > other:
                        falls += 1
                        self.assertEqual(stage - other, 1)
                        self.assertEqual(run.stood[end:begin + 1], [(other, stage)] * (begin + 1 - end))
                        self.assertTrue({piece[0] for piece in run.log[end:begin + 1]} <= {"look", "halt"})
        self.assertGreater(falls, 20)

    def test_whole_turns_never_fall_back(self):
        for nest, run in RUNS:
            slices = tuple(("go",) if piece == ("begin",) else piece for piece in run.log if piece != ("end",))
            rows = line_run(nest, 3, slices)
            for _, _, end, _, stage in rows:
                for _, begin, _, _, other in rows:
                    self.assertTrue(end >= begin or stage <= other)


class Wide(Promises):

    def test_all_at_the_first_stages(self):
        for nest in WIDE_NESTS:
            row = [row_at(nest, stage) for stage in range(3)]
            slices = (("go",), ("begin",))
            for dial in {0, len(row[0]) - 1, [a == b for a, b in zip(row[1], row[2])].index(False)}:
                self.gives(row[1][dial], dial_shows, nest, slices, dial, "old")
                self.gives(row[2][dial], dial_shows, nest, slices, dial, "new")
            self.gives((1, 2), standing, nest, slices)
            self.gives("turning", line_reason, nest, 1, slices, ("go",))
            self.gives((), line_run, nest, 1, (*slices, *[("look", 0, "new")] * min(50, len(nest_tour(nest)) - 1)))

    def test_watches_that_end(self):
        for nest in (((10 ** 30,), (10 ** 10,) * 3), ((10 ** 60,), ()), ((), (10 ** 60,)),
                     ((10 ** 29, 2), (5, 10 ** 30))):
            many = len(nest_tour(nest))
            slices = (("go",), ("go",), ("begin",), *[("look", 0, "old")] * many, *[("look", 1, "new")] * many)
            rows = line_run(nest, 2, slices)
            self.assertEqual([(who, begin, end, stage) for who, begin, end, _, stage in rows],
                             [(0, 3, 2 + many, 2), (1, 3 + many, 2 + 2 * many, 3)])
        self.assertEqual(nest_held(((), WIDE)), 2 ** 99 + 2 ** 100 - 1)


if __name__ == "__main__":
    unittest.main()
