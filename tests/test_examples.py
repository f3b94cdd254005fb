"""The examples of the document, as it writes them."""

import doctest
import importlib
import itertools
import os
import unittest

from stoodthen.avoidpapers import avoid_paper
from stoodthen.dealings import dealing_of
from stoodthen.errors import InvalidText, Unseen
from stoodthen.heldrows import rows_each
from stoodthen.holdkinds import lets_holding
from stoodthen.lifechecker import lets_life
from stoodthen.lives import life_of
from stoodthen.machines import machine_by, machine_of
from stoodthen.nestkinds import nest_held, nest_tour
from stoodthen.nestlives import life_by
from stoodthen.netchecker import lets_net
from stoodthen.readables import is_readable
from stoodthen.rightstages import is_safe
from stoodthen.runtexts import read_slices
from stoodthen.views import view_of
from stoodthen.viewspans import first_end, last_begin
from stoodthen.weaktold import weak_first, weak_stage
from tests.samples import BOTH, MB, MT, NEST, RING, RM, ROW, TWO, Promises
from tests.test_interface import listed, parts

EXAMPLES = """
>>> from stoodthen.machines import stepping_back
>>> stepping_back((2, 2), ((0, 0), (1, 0)), 1)
((2, 2), (((0, 0), 0), ((1, 0), 1), ((0, 0), 0)), ((0, 1), (1, 2), (2, 1)))

>>> from stoodthen.lifetexts import life_line
>>> life_line(TWO)
'2 2; 0 0 0; 1 0 1; 1 1 2'

>>> view_of(BOTH, (0, 1), (1, 3))
(0, 0)

>>> views_of(MT, (1, 0))
((0, 0), (0, 1), (1, 1))

>>> right_stages(MT, (0, 1), (0, 1))
(0, 1, 2)
>>> right_stages(MB, (0, 1), (0, 0))
()

>>> first_torn(MT, ())
()

>>> answer_table(MT, (0, 1))
(((0, 0), 0), ((0, 1), 0), ((1, 0), 1), ((1, 1), 2))

>>> avoiding_watch(MB, (0, 1), (0, 0), 0)
((1, 2, 3), (0, 2))

>>> two_looks(BOTH, (0, 1))
((0, 0), (1, 3))

>>> row_answers(RM, (1, 0, 0))
(0,)
>>> row_answers(RM, (0, 0, 0))
()

>>> enough_sweeps(MT)
3

>>> fool_paper(RM)
((0, 0, 0), ((1, 2), (0, 2), (0, 1)))

>>> judged_reader(MB, (("look", 0, (0, 1)), ("tell", 0)))
'endless'

>>> wrong_watch(MT, (("look", 1, (1, 2)), ("tell", 0), ("tell", 2)))
((1,), (0,))

>>> from stoodthen.gaps import gap_dials, gap_bound, tour_bound, nested_form
>>> gap_dials((2, 3, 2), (0, 1, 0, 2), 2)
((1,), (2,), (0,))
>>> gap_bound((2, 3, 2), (0, 1, 0, 2), 2), tour_bound((2, 3, 2), (0, 1, 0, 2))
(8, 7)
>>> nested_form((2, 3, 2), (0, 2, 1, 0))
((0,), (2, 1))

>>> from stoodthen.cutpapers import cut_marks, clash_at
>>> cut_marks(BOTH, (0, 1), 1), clash_at(BOTH, (0, 1), 1)
(('first', 'clash', 'new', 'gone'), ((0, 0), (1, 3)))

>>> from stoodthen.leastcuts import cuts_of, least_cut, cut_gap
>>> cuts_of((2, 2, 3)), least_cut((2, 2, 3)), cut_gap((2, 2, 3))
((7, 6), 6, 2)

>>> from stoodthen.orders import middle_of, best_cut
>>> middle_of((2, 2, 3)), best_cut((2, 2, 3))
((1, 2, 3), 7)

>>> from stoodthen.looknumbers import most_held, fewest_looks
>>> most_held((2, 3, 2), 3), most_held((2, 3, 2), 4), fewest_looks((2, 3, 2), 8)
(7, 9, 4)

>>> from stoodthen.bitnumbers import bits_held, bits_for
>>> bits_held(4, 5), bits_held(4, 9), bits_for(10, 1)
(10, 16, 4)

>>> from stoodthen.nestkinds import nest_tour, nest_held, placed_row
>>> nest_tour(((2,), (3, 2))), nest_held(((2,), (3, 2))), placed_row((2, 3, 2, 4), (1,), (0,), (2, 1))
((0, 1, 2, 0), 8, (1, 2, 0, 0))

>>> (counted_row((2, 3), 4), count_by((2, 3), (1, 1)), turned_place((2, 3), 3), place_turns((2, 3), 1))
((1, 1), 4, 0, 4)

>>> (next_count((2, 3), 1, 0, 1), next_count((2, 3), 0, 0, 3), last_count((2, 3), 1, 2, 5))
(5, None, 3)

>>> (halves_of((2, 2, 2)), right_comes((2, 2, 2), 1), right_comes((2, 2, 2), 3), rights_ahead((2, 2, 2), 1))
((2, 4, 2, 2), 0, 1, 1)
>>> (counts_at((2, 2, 2), 3), left_begins((2, 2, 2), 1), right_begins((2, 2, 2), 3))
((1, 2), 2, 4)

>>> (core_row((2, 2, 2), 3), core_stage((2, 2, 2), (1, 0, 1)), core_stage((2, 2, 2), (1, 0, 0)))
((1, 1, 1), 4, None)

>>> (row_at(((3,), (2,)), 4), stage_by(((3,), (2,)), (1, 0)), shift_of(((3,), (2,))))
((2, 0), 3, (2, 1))

>>> (turn_at(((3,), (2,)), 3), nest_turns(((3,), (2,)), 1), off_row(((3,), (2,)), 1, 7))
((1, 0), 3, (1, 1))

>>> life_by(((3,), (2,)), 6)
((3, 2), (((0, 0), 0), ((0, 1), 1), ((1, 1), 2), ((1, 0), 3), ((2, 0), 4), ((2, 1), 5)))
>>> life_by(((), (2, 2, 2)), 5)
((2, 2, 2), (((0, 0, 0), 0), ((0, 1, 0), 1), ((1, 1, 0), 2), ((1, 1, 1), 3), ((1, 0, 1), 4)))

>>> (return_of(TWO), return_of(BOTH), return_watches(BOTH, 1, 0, 3))
(None, (1, 0, 3), ((0, 0), (1, 3)))

>>> (due_turns((2, 2, 2)), is_longest(TWO), is_longest(BOTH), is_due(TWO), is_due(BOTH))
((1, 2, 1), True, False, True, False)

>>> (pair_many(2, 2), pair_many(2, 3), pair_parts(TWO))
(8, 36, ((0, 1), (0, 1), (0, 1)))
>>> pair_life((1, 0), (0, 1), (1, 0))
((2, 2), (((1, 0), 0), ((1, 1), 1), ((0, 1), 2)))

>>> from stoodthen.shows import last_show, next_show
>>> NEST = ((2,), (2,))
>>> next_show(NEST, 1, 0, 1), next_show(NEST, 0, 0, 2)
(3, None)
>>> last_show(NEST, 1, 0, 2), last_show(NEST, 0, 1, 1)
(0, None)
>>> next_show(((), (2,) * 100), 0, 1, 0)
844424930131967

>>> from stoodthen.viewspans import first_end, last_begin
>>> first_end(NEST, (0, 1, 1)), last_begin(NEST, (0, 1, 1))
((0, 1, 2), (1, 2, 3))

>>> from stoodthen.toldanswers import is_seen, right_span, told_stage
>>> is_seen(NEST, (1, 0, 0)), right_span(NEST, (0, 1, 1)), told_stage(NEST, (0, 1, 1))
(False, (1, 2), 1)

>>> from stoodthen.lifespans import early_moments, late_moments, life_span
>>> early_moments(BOTH, (0, 1), (0, 0)), late_moments(BOTH, (0, 1), (0, 0))
((0, 0), (1, 3))
>>> life_span(BOTH, (0, 1), (0, 0)), life_span(BOTH, (0, 1), (0, 1))
(None, (1, 1))

>>> from stoodthen.answerpapers import answer_paper, lets_answer
>>> answer_paper(BOTH, (0, 1), (0, 1)), lets_answer(BOTH, (0, 1), (0, 1), ((0, 1), (1, 2)))
(((0, 1), (1, 2)), (1, 1))

>>> from stoodthen.weaktold import weak_first, weak_stage
>>> weak_stage(NEST, (1, 0, 0)), weak_stage(NEST, (0, 1, 1)), weak_stage(NEST, (1, 1, 1))
(2, 2, 2)
>>> weak_stage(((2, 2), ()), (1, 0, 1, 1)), weak_first(((2, 2), ()), (1, 0, 1, 1))
(3, 1)

>>> off_span(NEST, 1, (0, 1, 1)), off_stage(NEST, 1, (0, 1, 1))
((4, 7), 4)

>>> shown((2, 2), reader_by((2, 2), (0, 1), (((1, 0), 4),)), (1, 0))[1]
4
>>> seen_table(((), (2,))), seen_table(((2,), ()))
((((0,), 0), ((1,), 1)), (((0, 0), 0), ((0, 1), 0), ((1, 1), 1)))

>>> KITE = (4, ((0, 1), (0, 2), (1, 2), (2, 3)))
>>> (blocks_of(KITE), hinges_of(KITE))
(((0, 1, 2), (2, 3)), (2,))

>>> (gates_of(KITE, 3), behind(KITE, 0, 2))
((2, 3), (2, 3))

>>> (regions_of(KITE, (1,)), region_of(KITE, (0, 1), 3))
(((0, 1, 2), (3,)), 3)

>>> lets_holding(KITE, (2, 2, 2, 4), (("ties", (2, 1, 0)), ("dial", 3)))
(0, 0, 0, 2)

>>> (deals_many(ROW, (3, 2)), dealing_of(RING, (2, 2, 2)), mixed_of(RING, (2, 2)))
(3, None, None)

>>> LINED = ((0, 0), (1, 0), (1, 1))
>>> (parting_dials(ROW, (2, 2), LINED), handed_told(ROW, (2, 2), LINED, (0, 1)))
(((0,), (1,)), 0)
>>> bare_row(RING, (2, 2), LINED)
(1, 0)

>>> TIED = (("ties", (0, 1, 2)),)
>>> (rows_at(RING, (2, 2, 2), TIED, 1), passed_row(RING, (2, 2, 2), TIED, (1, 0, 0), 1, 2))
(((0, 1, 1), (1, 0, 0)), (1, 0, 1))

>>> (sinks_of(ROW, (0, 2)), told_gates(RING, (2, 2, 2), TIED, (1, 1, 1)))
((0, 2), (0,))

>>> (tight_many(ROW, (2, 2)), tight_parts(RING, (3,), ((2,), (0,), (1,))))
(8, ((0,), ((2, 0, 1),)))

>>> beating(RING, (2, 2), LINED, (("look", 1, (1, 1)), ("tell", 1)))
('told', (0,), (0,))

>>> Undo(ROW, (3,), (("dial", 0),) * 2).hung(2, ROW, (3,), (("dial", 0),) * 2).rows(3)
((2, 1),)

>>> from stoodthen.weakruns import line_reason, dial_shows
>>> (line_reason(((), (2,)), 1, (("begin",),), ("go",)), dial_shows(((), (2,)), (("begin",),), 0, "new"))
('turning', 1)

>>> from stoodthen.lineruns import line_run, stood_between
>>> EARLY = (("go",), ("begin",), ("look", 0, "new"), ("look", 0, "new"), ("look", 0, "old"), ("end",))
>>> line_run(((2,), (2,)), 1, EARLY)
((0, 2, 4, (1, 1, 0), 2),)
>>> stood_between(((2,), (2,)), EARLY, 0, 4)
(1, 2)

>>> from stoodthen.falls import fallen_pairs, remembered
>>> FALL = ((1, 1, 1, (1,), 1), (0, 2, 2, (0,), 0), (1, 3, 3, (0,), 0))
>>> (fallen_pairs(FALL), remembered(FALL))
(((0, 1), (0, 2)), (1, 0, 1))

>>> from stoodthen.undoruns import undo_run
>>> slices = (("begin", 1), ("look", 0, "old"), ("look", 0, "new"), ("look", 0, "old"))
>>> undo_run(RING, (2, 2, 2), (("ties", (0, 1, 2)),), ((2, 0, 1),), slices)
((0, 1, 3, (1, 0, 0), 1),)

>>> from stoodthen.runchanges import whole_turns
>>> whole_turns((("begin", 1), ("end",), ("pass", 2), ("begin", 0)))
(('pass', 1), ('pass', 2), ('pass', 0))

>>> from stoodthen.runtexts import slices_text, read_slices
>>> slices_text((("begin", 2), ("look", 0, "old")))
'begin 2\\nlook 0 old'

>>> claim_line(("both", ("row", "ab", (1, 0)), ("not", ("at", "cd", 2))))
'both row ab 1 0 not at cd 2'

>>> desk = Desk()
>>> desk.do_all((("line", "ab", (), (2, 2)), ("go", "ab", 2), ("grow", "ab", 2)))
>>> (desk.row_now("ab"), desk.told("ab", (0, 1, 1, 0)), desk.old_told("ab", 1, (0, 1)))
((0, 1, 1), 2, 0)

>>> event_line(("hang", "cd", 1, RING, (3,), (("dial", 0),)))
'hang cd 1 3 3 0 1 0 2 1 2 1 3 dial 0'
"""


def interface():
    """All names of the interface, as far as it has landed: some examples leave out imports."""
    names = {"TWO": TWO, "BOTH": BOTH, "RING": RING, "ROW": ROW, "MB": MB, "MT": MT, "RM": RM}
    for file, text in listed():
        for name, _ in parts(text):
            names[name] = getattr(importlib.import_module("stoodthen." + file), name)
    return names


class Examples(Promises):

    def test_as_written(self):
        told = []
        example = doctest.DocTestParser().get_doctest(EXAMPLES, interface(), "DOC.md", None, 0)
        result = doctest.DocTestRunner(verbose=False).run(example, out=told.append)
        self.assertEqual((result.failed, "".join(told)), (0, ""))
        self.assertEqual(result.attempted, 103)

    def test_readme(self):
        path = os.path.join(os.path.dirname(os.path.dirname(os.path.abspath(__file__))), "README.md")
        result = doctest.testfile(path, module_relative=False, encoding="utf-8")
        self.assertEqual((result.failed, result.attempted), (0, 22))

    def test_the_samples(self):
        self.gives(3, lets_life, TWO)
        self.gives(BOTH, life_of, (2, 2), tuple(row for row, _ in BOTH[1]))
        self.gives(3, lets_net, RING)
        self.gives(2, lets_net, ROW)

    def test_what_the_document_says_of_them(self):
        self.gives(True, is_safe, machine_of(TWO), (0, 1))
        self.gives(False, is_safe, machine_of(BOTH), (0, 1))
        self.gives((0, 0), view_of, BOTH, (0, 1), (0, 0))
        self.assertEqual(avoid_paper(MB, (0, 1))[0], (0, 0))
        self.gives(True, is_safe, machine_of(BOTH), (0, 1, 0))
        self.gives(TWO, life_by, ((), (2, 2)), 3)
        self.gives(4, nest_held, NEST)
        self.gives((0, 1, 0), nest_tour, NEST)
        self.gives(BOTH, life_by, NEST, 4)
        self.fails(Unseen, (2,), first_end, NEST, (1, 0, 0))
        self.fails(Unseen, (0,), last_begin, NEST, (1, 0, 0))
        for function in (weak_stage, weak_first):
            self.fails(Unseen, (2,), function, ((3,), (2,)), (2, 0, 0))
        self.gives(True, is_readable, machine_by(ROW, (2, 2), ((0, 0), (1, 0), (1, 1))))
        self.gives(True, is_readable, machine_by(RING, (3,), ((0,), (1,), (2,))))

    def test_ring_cannot_be_held_in_two_values(self):
        for dials in ((2,), (2, 2), (2, 2, 2)):
            for rows in itertools.product(itertools.product((0, 1), repeat=len(dials)), repeat=3):
                self.gives(False, is_readable, machine_by(RING, dials, rows))

    def test_ring_and_row_are_held_as_the_document_says(self):
        self.gives(None, dealing_of, RING, (2,) * 9)
        self.assertIsNotNone(dealing_of(ROW, (2, 2)))
        self.gives((("dial", 0),), dealing_of, RING, (3,))
        self.gives((0, 0, 0), lets_holding, RING, (2, 2, 2), (("ties", (0, 1, 2)),))
        self.gives(2, rows_each, RING, (2, 2, 2), (("ties", (0, 1, 2)),))

    def test_the_text_that_raises(self):
        self.fails(InvalidText, (1, 1), read_slices, "go\nlook 00 old")


if __name__ == "__main__":
    unittest.main()
