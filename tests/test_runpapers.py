"""[78], [79], [82]: papers of runs, slices of one reader alone and slices with whole turns."""

import itertools
import unittest

from stoodthen.falls import fall_depth, fallen_pairs, remembered
from stoodthen.lineruns import line_run, stood_between
from stoodthen.runchanges import alone, whole_turns
from stoodthen.runpapers import lets_stood, stood_paper
from stoodthen.undoruns import undo_run
from stoodthen.weakruns import line_reason
from tests.samples import NEST, ODD, Promises
from tests.test_lineruns import EARLY, NO_SLICES, RUNS
from tests.test_undoruns import RUNS as NET_RUNS

LINE = (("go",), ("begin",), ("look", 0, "old"), ("end",), ("look", 1, "new"), ("halt", 0), ("halt", 1), ("begin",))
NET = (("begin", 1), ("look", 1, "old"), ("end",), ("pass", 2), ("look", 0, "new"), ("halt", 1), ("begin", 0))


class Papers(Promises):

    def test_least_places(self):
        kinds = set()
        for nest, run in RUNS:
            slices = tuple(run.log)
            least = []
            for _, begin, end, _, stage in run.rows:
                places = [place for place in range(begin, end + 1) if stage in run.stood[place]]
                least.append(places[0])
                kinds.add((places[0] == begin, places[-1] == end))
            self.gives(tuple(least), stood_paper, nest, 3, slices)
            self.gives(len(least), lets_stood, nest, 3, slices, tuple(least))
        self.assertEqual(kinds, {(True, True), (True, False), (False, True), (False, False)})

    def test_all_papers(self):
        found = {}
        for nest, run in RUNS:
            slices = tuple(run.log)[:30]
            rows = [row for row in run.rows if row[2] < 30][:3]
            slices = slices[:rows[-1][2] + 1] if rows else ()
            choices = [range(begin - 1, end + 2, 1 + (end - begin) // 4) for _, begin, end, _, _ in rows]
            for paper in itertools.islice(itertools.product(*choices), 0, 600, 7):
                word = None
                for at, ((_, begin, end, _, stage), place) in enumerate(zip(rows, paper)):
                    if not begin <= place <= end:
                        word = ("place", at)
                    elif stage not in run.stood[place]:
                        word = ("stage", at)
                    if word:
                        break
                found[word] = found.get(word, 0) + 1
                if word:
                    self.rejects(*word, lets_stood, nest, 3, slices, paper)
                else:
                    self.gives(len(rows), lets_stood, nest, 3, slices, paper)
        self.assertEqual(set(found), {None, *[(word, at) for word in ("place", "stage") for at in range(3)]})

    def test_no_rows(self):
        for slices in ((), (("go",),), (("look", 0, "old"),)):
            self.gives((), stood_paper, NEST, 1, slices)
            self.gives(0, lets_stood, NEST, 1, slices, ())
            for thing in ODD:
                if thing != () or not isinstance(thing, tuple):
                    self.rejects("shape", -1, lets_stood, NEST, 1, slices, thing)

    def test_shape(self):
        self.gives((2,), stood_paper, NEST, 1, EARLY)
        for thing in (None, True, 0, "", "2", [2], (), (2, 2), [], ((2,), 2), {}):
            self.rejects("shape", -1, lets_stood, NEST, 1, EARLY, thing)

    def test_places(self):
        for wrong in (None, True, -1, 0, 1, 5, 6, "2", (), (2,), [2], 10 ** 69, False):
            self.rejects("place", 0, lets_stood, NEST, 1, EARLY, (wrong,))
        for place in (2, 3, 4):
            self.gives(1, lets_stood, NEST, 1, EARLY, (place,))
        # True is not 1, also where a watch is at the place 1.
        self.gives(1, lets_stood, ((), (3,)), 1, (("go",), ("look", 0, "old")), (1,))
        self.rejects("place", 0, lets_stood, ((), (3,)), 1, (("go",), ("look", 0, "old")), (True,))

    def test_stages_that_do_not_stand_there(self):
        slices = (("look", 0, "old"), ("go",), ("look", 0, "old"), ("go",), ("look", 0, "old"))
        (_, begin, end, _, stage), = line_run(NEST, 1, slices)
        self.assertEqual((begin, end), (0, 4))
        stood = [0, 1, 1, 2, 2]
        for place in range(5):
            if stood[place] == stage:
                self.gives(1, lets_stood, NEST, 1, slices, (place,))
            else:
                self.rejects("stage", 0, lets_stood, NEST, 1, slices, (place,))
        self.rejects("place", 0, lets_stood, NEST, 1, slices, (5,))

    def test_one_entry_comes_before_the_next(self):
        slices = (("look", 0, "old"), ("look", 1, "old"), ("go",), ("look", 0, "old"), ("look", 1, "old"))
        nest = ((2,), ())
        self.assertEqual([row[1:3] for row in line_run(nest, 2, slices)], [(0, 3), (1, 4)])
        good = stood_paper(nest, 2, slices)
        other = [place for place in range(1, 4) if not (place < 2) == (good[0] < 2)][0]
        self.rejects("stage", 0, lets_stood, nest, 2, slices, (other, 9))
        self.rejects("place", 0, lets_stood, nest, 2, slices, (9, other))
        self.rejects("place", 1, lets_stood, nest, 2, slices, (good[0], 0))

    def test_refused(self):
        for function, more in ((stood_paper, ()), (lets_stood, (None,))):
            for wrong in (None, True, -1, "1", ()):
                self.refuses("many", function, NEST, wrong, (), *more)
                self.refuses("many", function, NEST, wrong, None, *more)
            for wrong in (*NO_SLICES, (("end",),), (("go",),) * 4, (("halt", 1),), (("halt", 0),) * 2):
                self.refuses("slices", function, NEST, 1, wrong, *more)


class Changes(Promises):

    def test_example(self):
        self.gives((("pass", 1), ("pass", 2), ("pass", 0)), whole_turns,
                   (("begin", 1), ("end",), ("pass", 2), ("begin", 0)))

    def test_alone(self):
        self.gives((("go",), ("begin",), ("look", 0, "old"), ("end",), ("halt", 0), ("begin",)), alone, LINE, 0)
        self.gives((("go",), ("begin",), ("end",), ("look", 1, "new"), ("halt", 1), ("begin",)), alone, LINE, 1)
        self.gives((("go",), ("begin",), ("end",), ("begin",)), alone, LINE, 2)
        self.gives((("begin", 1), ("look", 1, "old"), ("end",), ("pass", 2), ("halt", 1), ("begin", 0)), alone, NET, 1)
        self.gives((), alone, (), 0)
        # Slices that are not let.
        self.gives((("end",), ("end",), ("halt", 3), ("look", 3, "old")), alone,
                   (("end",), ("end",), ("halt", 3), ("look", 3, "old")), 3)

    def test_whole_turns(self):
        self.gives((("go",), ("go",), ("look", 0, "old"), ("look", 1, "new"), ("halt", 0), ("halt", 1), ("go",)),
                   whole_turns, LINE)
        self.gives((("pass", 1), ("look", 1, "old"), ("pass", 2), ("look", 0, "new"), ("halt", 1), ("pass", 0)),
                   whole_turns, NET)
        self.gives((), whole_turns, ())
        self.gives((), whole_turns, (("end",), ("end",)))
        self.gives((("pass", 10 ** 69),) * 2, whole_turns, (("begin", 10 ** 69),) * 2)

    def test_refused(self):
        wrong = (None, True, 0, "", [], list(LINE), ("go",), (LINE,), (*LINE, ("pass", 1)), (*NET, ("go",)),
                 (("begin",), ("begin", 1)),
                 (None,), ((),), (["go"],), (("look", 0, "older"),))
        for slices in wrong:
            self.refuses("slices", alone, slices, 0)
            self.refuses("slices", alone, slices, None)
            self.refuses("slices", whole_turns, slices)
        for who in (None, True, -1, "0", (), [0]):
            self.refuses("who", alone, LINE, who)


class Consequences(Promises):

    def test_rows_of_a_reader_alone(self):
        for nest, run in RUNS:
            slices = tuple(run.log)
            for who in range(3):
                own = [(row[0], row[3], row[4]) for row in run.rows if row[0] == who]
                rows = line_run(nest, 3, alone(slices, who))
                self.assertEqual([(row[0], row[3], row[4]) for row in rows], own)
        for held, run in NET_RUNS[::3]:
            for who in range(3):
                own = [(row[0], row[3], row[4]) for row in run.rows if row[0] == who]
                rows = undo_run(*held, run.orders, alone(tuple(run.log), who))
                self.assertEqual([(row[0], row[3], row[4]) for row in rows], own)

    def test_whole_turns_are_let_without_falls(self):
        fallen = 0
        for nest, run in RUNS:
            slices = tuple(run.log)
            rows = line_run(nest, 3, slices)
            fallen += fallen_pairs(rows) != ()
            self.assertLessEqual(fall_depth(rows), 1)
            whole = whole_turns(slices)
            for many in range(0, len(whole), 6):
                self.gives(None, line_reason, nest, 3, whole[:many], whole[many])
            self.assertEqual(fallen_pairs(line_run(nest, 3, whole)), ())
        self.assertGreater(fallen, 5)

    def test_what_is_remembered_stood(self):
        for nest, run in RUNS:
            slices = tuple(run.log)
            rows = line_run(nest, 3, slices)
            for (_, begin, end, _, stage), told in zip(rows, remembered(rows)):
                first, last = stood_between(nest, slices, begin, end)
                self.assertTrue(first <= stage <= last and first <= told <= last)


if __name__ == "__main__":
    unittest.main()
