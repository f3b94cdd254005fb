"""[56], [57], [62], (G1): which stages of any life are right for a view, and papers of it."""

import itertools
import unittest

from stoodthen.answerpapers import answer_paper, lets_answer
from stoodthen.errors import InvalidPaper, Unseen
from stoodthen.lifespans import early_moments, late_moments, life_span
from stoodthen.machines import machine_of
from stoodthen.rightstages import right_stages
from tests import plain
from tests.samples import (
    BOTH, KEPT, ODD, STILL, TWO, Promises, counted_life, random_life, random_row, random_tour, samples)


def life_tour_view(rng):
    life = random_life(rng, 8)
    tour = random_tour(rng, life[0], 4) or (0,)
    return life, tour, random_row(rng, [life[0][dial] for dial in tour])


CASES = samples(life_tour_view, 500)


def early(life, tour, view):
    """The early moments, or the place that Unseen tells."""
    moments = [0]
    for place, (dial, value) in enumerate(zip(tour, view)):
        ahead = [at for at in range(moments[-1], len(life[1])) if life[1][at][0][dial] == value]
        if not ahead:
            return place
        moments.append(ahead[0])
    return tuple(moments[1:])


def late(life, tour, view):
    back = (life[0], life[1][::-1])
    found = early(back, tour[::-1], view[::-1])
    if isinstance(found, int):
        return len(tour) - 1 - found
    return tuple(len(life[1]) - 1 - at for at in found[::-1])


class Spans(Promises):

    def test_examples(self):
        self.gives((0, 0), early_moments, BOTH, (0, 1), (0, 0))
        self.gives((1, 3), late_moments, BOTH, (0, 1), (0, 0))
        self.gives(None, life_span, BOTH, (0, 1), (0, 0))
        self.gives((1, 1), life_span, BOTH, (0, 1), (0, 1))

    def test_beside_the_definition(self):
        kinds = set()
        for life, tour, view in CASES:
            first, last = early(life, tour, view), late(life, tour, view)
            if isinstance(first, int):
                kinds.add("unseen")
                self.fails(Unseen, (first,), early_moments, life, tour, view)
                self.fails(Unseen, (last,), late_moments, life, tour, view)
                self.fails(Unseen, (first,), life_span, life, tour, view)
                self.fails(Unseen, (first,), answer_paper, life, tour, view)
                continue
            self.gives(first, early_moments, life, tour, view)
            self.gives(last, late_moments, life, tour, view)
            self.gives((first, last), answer_paper, life, tour, view)
            span = (life[1][last[0]][1], life[1][first[-1]][1])
            kinds.add(span[0] <= span[1])
            self.gives(span if span[0] <= span[1] else None, life_span, life, tour, view)
            self.gives(span, lets_answer, life, tour, view, (first, last))
        self.assertEqual(kinds, {"unseen", True, False})

    def test_beside_all_watches(self):
        for life, tour, view in CASES[:200]:
            seen = plain.views_by_life(life, tour)
            if view not in seen:
                self.assertIsInstance(early(life, tour, view), int)
                continue
            span = life_span(life, tour, view)
            right = () if span is None else tuple(range(span[0], span[1] + 1))
            self.assertEqual(right, plain.right_for(seen[view], life[1][-1][1] + 1))
            self.gives(right, right_stages, machine_of(life), tour, view)

    def test_places_on_both_ways(self):
        # Seen from the front the third look is the first one without a moment, from behind the second.
        life = ((2, 2), (((0, 1), 0), ((1, 1), 1), ((1, 0), 2)))
        self.fails(Unseen, (2,), early_moments, life, (0, 1, 1, 1), (0, 0, 1, 1))
        self.fails(Unseen, (1,), late_moments, life, (0, 1, 1, 1), (0, 0, 1, 1))
        self.fails(Unseen, (0,), early_moments, STILL, (0, 0), (0, 2))
        self.fails(Unseen, (0,), late_moments, STILL, (0, 0), (0, 2))
        self.fails(Unseen, (1,), late_moments, STILL, (0, 0), (0, 1))

    def test_four_hundred_spots(self):
        life = counted_life((2,) * 9, 400)
        tour = tuple(range(9)) + (0, 1, 2, 3, 4, 5, 6)
        view = tuple(plain.counted_row((2,) * 9, 255)[dial] for dial in tour)
        self.gives(early(life, tour, view), early_moments, life, tour, view)
        self.gives(late(life, tour, view), late_moments, life, tour, view)

    def test_refused(self):
        for function in (early_moments, late_moments, life_span, answer_paper):
            for tour in (None, 0, (), [], [0], (2,), (-1,), (True,), (0, None), "0", ((0,),)):
                self.refuses("tour", function, BOTH, tour, None)
                self.refuses("tour", function, BOTH, tour, ())
            for view in (None, (), (0,), (0, 0, 0), (0, 2), (-1, 0), (True, 0), [0, 0], "00"):
                self.refuses("view", function, BOTH, (0, 1), view)


def refusal(life, tour, view, thing):
    """What lets_answer refuses thing with, by the list of the document; None if it accepts it."""
    if not (isinstance(thing, tuple) and len(thing) == 2):
        return ("shape", -1)
    spots = range(len(life[1]))
    for word, moments in zip(("early", "late"), thing):
        if not (isinstance(moments, tuple) and len(moments) == len(tour)
                and all(type(at) is int and at in spots for at in moments)):
            return (word, -1)
        at = 0 if word == "early" else len(spots) - 1
        places = range(len(tour)) if word == "early" else range(len(tour))[::-1]
        for place in places:
            let = [spot for spot in (range(at, len(spots)) if word == "early" else range(at + 1))
                   if life[1][spot][0][tour[place]] == view[place]]
            if not let or moments[place] != (min(let) if word == "early" else max(let)):
                return (word, place)
            at = moments[place]
    return None


class Papers(Promises):

    def test_examples(self):
        self.gives(((0, 1), (1, 2)), answer_paper, BOTH, (0, 1), (0, 1))
        self.gives((1, 1), lets_answer, BOTH, (0, 1), (0, 1), ((0, 1), (1, 2)))

    def test_also_without_a_right_stage(self):
        self.gives(((0, 0), (1, 3)), answer_paper, BOTH, (0, 1), (0, 0))
        self.gives((1, 0), lets_answer, BOTH, (0, 1), (0, 0), ((0, 0), (1, 3)))

    def test_all_papers(self):
        for life, tour in ((TWO, (0, 1)), (BOTH, (1, 0)), (((2,), (((0,), 0), ((1,), 0), ((0,), 1))), (0, 0))):
            moments = list(itertools.product(range(-1, len(life[1]) + 1), repeat=2))
            for view in itertools.product((0, 1), repeat=2):
                accepted = []
                for thing in itertools.product(moments, repeat=2):
                    expected = refusal(life, tour, view, thing)
                    if expected is None:
                        accepted.append(thing)
                    else:
                        self.fails(InvalidPaper, expected, lets_answer, life, tour, view, thing)
                seen = view in plain.views_by_life(life, tour)
                self.assertEqual(len(accepted), 1 if seen else 0)
                if seen:
                    self.assertEqual(accepted[0], answer_paper(life, tour, view))

    def test_no_paper_for_views_that_nobody_sees(self):
        for thing in (((0, 0), (0, 0)), ((0, 1), (2, 2))):
            expected = refusal(TWO, (1, 0), (1, 0), thing)
            self.fails(InvalidPaper, expected, lets_answer, TWO, (1, 0), (1, 0), thing)
        self.rejects("early", 1, lets_answer, TWO, (1, 0), (1, 0), ((2, 2), (0, 0)))
        self.rejects("early", 0, lets_answer, TWO, (1, 0), (1, 0), ((0, 0), (0, 0)))

    def test_each_word(self):
        arguments = (BOTH, (0, 1), (0, 1))
        for thing in (*[thing for thing in ODD if not (isinstance(thing, tuple) and len(thing) == 2)], [(0, 1), (1, 2)],
                      ((0, 1),), ((0, 1), (1, 2), (1, 2))):
            self.rejects("shape", -1, lets_answer, *arguments, thing)
        for wrong in (None, (), (0,), (0, 1, 1), [0, 1], (0, 4), (0, -1), (0, True), (False, 1), (0, None), "01"):
            self.rejects("early", -1, lets_answer, *arguments, (wrong, None))
            self.rejects("late", -1, lets_answer, *arguments, ((0, 1), wrong))
        self.rejects("early", 0, lets_answer, *arguments, ((1, 1), None))
        self.rejects("early", 0, lets_answer, *arguments, ((1, 0), None))
        self.rejects("early", 1, lets_answer, *arguments, ((0, 2), None))
        self.rejects("late", 1, lets_answer, *arguments, ((0, 1), (1, 1)))
        self.rejects("late", 1, lets_answer, *arguments, ((0, 1), (0, 3)))
        self.rejects("late", 0, lets_answer, *arguments, ((0, 1), (0, 2)))

    def test_random_papers(self):
        for life, tour, view in CASES[:150]:
            first, last = early(life, tour, view), late(life, tour, view)
            if isinstance(first, int):
                continue
            for place in range(len(tour)):
                for at in range(len(life[1])):
                    for thing in ((first[:place] + (at,) + first[place + 1:], last),
                                  (first, last[:place] + (at,) + last[place + 1:])):
                        expected = refusal(life, tour, view, thing)
                        if expected is not None:
                            self.fails(InvalidPaper, expected, lets_answer, life, tour, view, thing)

    def test_refused(self):
        for tour in (None, (), (2,), [0], (True,)):
            self.refuses("tour", lets_answer, KEPT, tour, None, None)
        for view in (None, (), (0,), (0, 3), [0, 0], (True, 0)):
            self.refuses("view", lets_answer, KEPT, (0, 1), view, None)


if __name__ == "__main__":
    unittest.main()
