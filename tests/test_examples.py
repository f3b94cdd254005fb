"""The examples of the document, as it writes them."""

import doctest
import itertools
import os
import unittest

from stoodthen.avoidpapers import avoid_paper
from stoodthen.errors import InvalidText
from stoodthen.foolpapers import fool_paper
from stoodthen.lifechecker import lets_life
from stoodthen.lives import life_of
from stoodthen.machines import machine_by, machine_of
from stoodthen.netchecker import lets_net
from stoodthen.readables import enough_sweeps, is_readable, row_answers
from stoodthen.readerjudges import judged_reader, wrong_watch
from stoodthen.rightstages import answer_table, avoiding_watch, first_torn, is_safe, right_stages
from stoodthen.seenviews import views_of
from stoodthen.twolooks import two_looks
from stoodthen.views import view_of
from tests.samples import BOTH, MB, MT, RING, RM, ROW, TWO, Promises

EXAMPLES = """
>>> from stoodthen.machines import stepping_back
>>> stepping_back((2, 2), ((0, 0), (1, 0)), 1)
((2, 2), (((0, 0), 0), ((1, 0), 1), ((0, 0), 0)), ((0, 1), (1, 2), (2, 1)))

>>> from stoodthen.lifetexts import life_line
>>> life_line(TWO)
'2 2; 0 0 0; 1 0 1; 1 1 2'

>>> view_of(BOTH, (0, 1), (1, 3))
(0, 0)

>>> views_of(MT, (1, 0))
((0, 0), (0, 1), (1, 1))

>>> right_stages(MT, (0, 1), (0, 1))
(0, 1, 2)
>>> right_stages(MB, (0, 1), (0, 0))
()

>>> first_torn(MT, ())
()

>>> answer_table(MT, (0, 1))
(((0, 0), 0), ((0, 1), 0), ((1, 0), 1), ((1, 1), 2))

>>> avoiding_watch(MB, (0, 1), (0, 0), 0)
((1, 2, 3), (0, 2))

>>> two_looks(BOTH, (0, 1))
((0, 0), (1, 3))

>>> row_answers(RM, (1, 0, 0))
(0,)
>>> row_answers(RM, (0, 0, 0))
()

>>> enough_sweeps(MT)
3

>>> fool_paper(RM)
((0, 0, 0), ((1, 2), (0, 2), (0, 1)))

>>> judged_reader(MB, (("look", 0, (0, 1)), ("tell", 0)))
'endless'

>>> wrong_watch(MT, (("look", 1, (1, 2)), ("tell", 0), ("tell", 2)))
((1,), (0,))

>>> from stoodthen.gaps import gap_dials, gap_bound, tour_bound, nested_form
>>> gap_dials((2, 3, 2), (0, 1, 0, 2), 2)
((1,), (2,), (0,))
>>> gap_bound((2, 3, 2), (0, 1, 0, 2), 2), tour_bound((2, 3, 2), (0, 1, 0, 2))
(8, 7)
>>> nested_form((2, 3, 2), (0, 2, 1, 0))
((0,), (2, 1))

>>> from stoodthen.cutpapers import cut_marks, clash_at
>>> cut_marks(BOTH, (0, 1), 1), clash_at(BOTH, (0, 1), 1)
(('first', 'clash', 'new', 'gone'), ((0, 0), (1, 3)))
"""


class Examples(Promises):

    def test_as_written(self):
        told = []
        example = doctest.DocTestParser().get_doctest(EXAMPLES, dict(globals()), "DOC.md", None, 0)
        result = doctest.DocTestRunner(verbose=False).run(example, out=told.append)
        self.assertEqual((result.failed, "".join(told)), (0, ""))
        self.assertEqual(result.attempted, 24)

    def test_readme(self):
        path = os.path.join(os.path.dirname(os.path.dirname(os.path.abspath(__file__))), "README.md")
        result = doctest.testfile(path, module_relative=False, encoding="utf-8")
        self.assertEqual((result.failed, result.attempted), (0, 7))

    def test_the_samples(self):
        self.gives(3, lets_life, TWO)
        self.gives(BOTH, life_of, (2, 2), tuple(row for row, _ in BOTH[1]))
        self.gives(3, lets_net, RING)
        self.gives(2, lets_net, ROW)

    def test_what_the_document_says_of_them(self):
        self.gives(True, is_safe, machine_of(TWO), (0, 1))
        self.gives(False, is_safe, machine_of(BOTH), (0, 1))
        self.gives((0, 0), view_of, BOTH, (0, 1), (0, 0))
        self.assertEqual(avoid_paper(MB, (0, 1))[0], (0, 0))
        self.gives(True, is_safe, machine_of(BOTH), (0, 1, 0))
        self.gives(True, is_readable, machine_by(ROW, (2, 2), ((0, 0), (1, 0), (1, 1))))
        self.gives(True, is_readable, machine_by(RING, (3,), ((0,), (1,), (2,))))

    def test_ring_cannot_be_held_in_two_values(self):
        for dials in ((2,), (2, 2), (2, 2, 2)):
            for rows in itertools.product(itertools.product((0, 1), repeat=len(dials)), repeat=3):
                self.gives(False, is_readable, machine_by(RING, dials, rows))

    def test_errors_are_of_the_package(self):
        self.assertEqual((InvalidText(1, 1).line, InvalidText(1, 1).field), (1, 1))


if __name__ == "__main__":
    unittest.main()
