"""[49], [50], [51], (G6): torn returns, lives as long as can be, and those of two dials."""

import itertools
import unittest

from stoodthen.errors import NotUsable
from stoodthen.leastcuts import least_cut
from stoodthen.lifechanges import renamed_life, turned_back
from stoodthen.lives import is_lean, life_of, stages_many, turns_of
from stoodthen.longest import due_turns, is_due, is_longest
from stoodthen.machines import machine_of
from stoodthen.nestlives import life_by
from stoodthen.nestturns import nest_turns
from stoodthen.pairlives import pair_life, pair_lives, pair_many, pair_parts
from stoodthen.returns import return_of, return_watches
from stoodthen.rightstages import is_safe
from stoodthen.twolooks import lets_two_looks, two_looks
from tests import plain
from tests.samples import (
    BOTH, HUGE, KEPT, STILL, TWO, WIDE, Promises, counted_life, random_lean_life, samples, tuples_of)

LEAN = samples(random_lean_life, 300, 10)
NO_NUMBERS = (None, True, False, -1, -(10 ** 69), "1", (), (1,), [1])


def lean_lives(dials, many):
    """All lean lives of so many stages."""
    rows = list(itertools.product(*map(range, dials)))
    ways = [(row,) for row in rows]
    for _ in range(many - 1):
        ways = [(*way, row) for way in ways for row in rows if sum(a != b for a, b in zip(way[-1], row)) == 1]
    return [life_of(dials, way) for way in ways]


def all_returns(life):
    """All returns of a lean life, each with whether a dial ahead and one behind is turned in between."""
    rows = [row for row, _ in life[1]]
    found = []
    for there in range(1, len(rows)):
        for dial in range(len(life[0])):
            if rows[there][dial] == rows[there - 1][dial]:
                continue
            heres = [here for here in range(there) if rows[here][dial] == rows[there][dial]]
            if heres:
                turned = [other for at in range(heres[-1] + 1, there + 1) for other in range(len(life[0]))
                          if rows[at][other] != rows[at - 1][other]]
                found.append(((dial, heres[-1], there), min(turned) < dial, max(turned) > dial))
    return found


class Returns(Promises):

    def test_examples(self):
        self.gives(None, return_of, TWO)
        self.gives((1, 0, 3), return_of, BOTH)
        self.gives(((0, 0), (1, 3)), return_watches, BOTH, 1, 0, 3)

    def test_beside_the_definition(self):
        found = set()
        for life in LEAN:
            torn = [triple for triple, ahead, behind in all_returns(life) if not (ahead and behind)]
            self.gives(min(torn, key=lambda triple: triple[2], default=None), return_of, life)
            found.add(len(torn) > 1)
            found.add(torn == [])
        self.assertEqual(found, {True, False})

    def test_watches(self):
        kinds = set()
        for life in LEAN:
            many = len(life[0])
            for (dial, here, there), ahead, behind in all_returns(life):
                kinds.add((ahead, behind))
                if ahead and behind:
                    self.refuses("there", return_watches, life, dial, here, there)
                    continue
                if not ahead:
                    first = tuple(here if at <= dial else there - 1 for at in range(many))
                    second = (there,) * many
                else:
                    first = (here,) * many
                    second = tuple(here + 1 if at < dial else there for at in range(many))
                self.gives((first, second), return_watches, life, dial, here, there)
                self.gives(plain.life_view(life, tuple(range(many)), first),
                           lets_two_looks, life, tuple(range(many)), (first, second))
        self.assertEqual(kinds, set(itertools.product((False, True), repeat=2)))

    def test_only_torn_returns(self):
        for life in LEAN[:25]:
            torn = [triple for triple, ahead, behind in all_returns(life) if not (ahead and behind)]
            places = range(len(life[1]))
            for triple in itertools.product(range(len(life[0])), places, places):
                if triple not in torn:
                    self.refuses("there", return_watches, life, *triple)

    def test_safe_lives_have_none(self):
        for life in LEAN:
            if is_safe(machine_of(life), tuple(range(len(life[0])))):
                self.gives(None, return_of, life)

    def test_one_dial(self):
        there_and_back = ((3,), (((0,), 0), ((2,), 1), ((1,), 2), ((2,), 3), ((0,), 4)))
        self.gives((0, 1, 3), return_of, there_and_back)
        self.gives(((1,), (3,)), return_watches, there_and_back, 0, 1, 3)
        self.gives(None, return_of, STILL)

    def test_four_hundred_stages(self):
        life = counted_life((2,) * 9, 400)
        self.gives((8, 0, 3), return_of, life)
        long = life_by(((), (200, 201)), 400)
        self.gives(None, return_of, long)
        self.gives(None, return_of, life_by(((), (20, 20, 20)), 400))

    def test_refused(self):
        for life in (KEPT, ((2, 2), (((0, 0), 0), ((1, 1), 1))), ((2,), (((0,), 0), ((0,), 1)))):
            self.refuses("life", return_of, life)
            self.refuses("life", return_watches, life, None, None, None)
        for wrong in (*NO_NUMBERS, 2):
            self.refuses("dial", return_watches, BOTH, wrong, None, None)
        for wrong in (*NO_NUMBERS, 4):
            self.refuses("here", return_watches, BOTH, 1, wrong, None)
            self.refuses("there", return_watches, BOTH, 1, 0, wrong)
        self.refuses("there", return_watches, BOTH, 1, 0, 0)


class Longest(Promises):

    def test_examples(self):
        self.gives((1, 2, 1), due_turns, (2, 2, 2))
        self.gives(True, is_longest, TWO)
        self.gives(False, is_longest, BOTH)
        self.gives(True, is_due, TWO)
        self.gives(False, is_due, BOTH)

    def test_as_many_as_the_least_cut(self):
        for life in [*LEAN, KEPT, STILL, ((3,), (((2,), 0), ((0,), 1), ((1,), 2))), ((3,), (((2,), 0),) * 3)]:
            self.gives(is_lean(life) and stages_many(life) == least_cut(life[0]), is_longest, life)
        self.gives(False, is_longest, ((2, 2), (((0, 0), 0), ((0, 0), 1), ((1, 1), 2))))
        self.gives(False, is_longest, ((2, 2), (((0, 0), 0), ((0, 0), 1), ((0, 1), 2))))
        self.gives(True, is_longest, life_by(((), (200, 201)), 400))

    def test_due_turns(self):
        for dials in [dials for dials in tuples_of((2, 3, 4), 4) if dials] + [(12,) * 8, (7,), (2, 9, 3)]:
            nest = ((), dials)
            due = tuple(nest_turns(nest, dial) for dial in range(len(dials)))
            self.gives(due, due_turns, dials)
            self.assertEqual(sum(due), least_cut(dials) - 1)
            if least_cut(dials) <= 400:
                life = life_by(nest, least_cut(dials))
                self.gives(due, lambda life: tuple(turns_of(life, dial) for dial in range(len(dials))), life)
                for other in (life, turned_back(life), renamed_life(life, tuple(
                        tuple(range(size))[::-1] for size in dials))):
                    self.gives(True, is_due, other)
                    self.gives(True, is_longest, other)
        self.gives((10 ** 60 - 1,), due_turns, HUGE)
        self.gives(2 ** 99 + 2 ** 100 - 2, lambda dials: sum(due_turns(dials)), WIDE)
        self.gives((1, 2, 4), lambda dials: due_turns(dials)[:3], WIDE)

    def test_due_of_any_life(self):
        for life in [*LEAN, KEPT, STILL]:
            turns = tuple(turns_of(life, dial) for dial in range(len(life[0])))
            self.gives(turns == due_turns(life[0]), is_due, life)
        self.gives(True, is_due, ((2, 2), (((0, 0), 0), ((1, 0), 0), ((1, 1), 1))))
        self.gives(True, is_due, ((2, 2), (((0, 0), 0), ((1, 1), 0), ((1, 1), 1))))

    def test_longest_safe_lives_are_due(self):
        for dials, many in (((2, 2), 3), ((3, 2), 4), ((2, 2, 2), 5), ((2, 2, 3), 6), ((4,), 4)):
            found = 0
            for life in lean_lives(dials, many):
                safe = two_looks(life, tuple(range(len(dials)))) is None
                if safe:
                    found += 1
                    self.gives(True, is_longest, life)
                    self.gives(True, is_due, life)
                    self.gives(None, return_of, life)
            self.assertGreater(found, 0)


class PairLives(Promises):

    def test_examples(self):
        self.gives(8, pair_many, 2, 2)
        self.gives(36, pair_many, 2, 3)
        self.gives(((0, 1), (0, 1), (0, 1)), pair_parts, TWO)
        self.gives(((2, 2), (((1, 0), 0), ((1, 1), 1), ((0, 1), 2))), pair_life, (1, 0), (0, 1), (1, 0))

    def test_all_longest_lives(self):
        for one, other in ((2, 2), (2, 3), (3, 2), (3, 3), (2, 4), (4, 2)):
            safe = {life for life in lean_lives((one, other), one + other - 1) if two_looks(life, (0, 1)) is None}
            lives = list(pair_lives(one, other))
            self.gives(len(safe), pair_many, one, other)
            self.assertEqual(len(lives), len(safe))
            self.assertEqual(set(lives), safe)
            triples = [pair_parts(life) for life in lives]
            self.assertEqual(triples, sorted(set(triples)))
            for life, triple in zip(lives, triples):
                self.gives(life, pair_life, *triple)
                self.gives(True, is_longest, life)

    def test_counts(self):
        for one, other in itertools.product(range(2, 7), repeat=2):
            orders = plain.product(range(1, one + 1)) * plain.product(range(1, other + 1))
            words = sum(sum(word) == other - 1 for word in itertools.product((0, 1), repeat=one + other - 2))
            self.gives(orders * words, pair_many, one, other)
        self.assertEqual(next(pair_lives(6, 6)), pair_life(tuple(range(6)), tuple(range(6)), (0,) * 5 + (1,) * 5))

    def test_in_another_sequence(self):
        life = pair_life((2, 0, 1), (3, 1, 0, 2), (1, 0, 1, 1, 0))
        self.assertEqual(life, ((3, 4), (((2, 3), 0), ((2, 1), 1), ((0, 1), 2), ((0, 0), 3), ((0, 2), 4), ((1, 2), 5))))
        self.gives(((2, 0, 1), (3, 1, 0, 2), (1, 0, 1, 1, 0)), pair_parts, life)

    def test_no_parts(self):
        for life in (BOTH, STILL, KEPT, ((2, 2), (((0, 0), 0),)), ((2, 2), (((0, 0), 0), ((0, 1), 1))),
                     ((2, 2), (((0, 0), 0), ((1, 1), 1))), ((2, 2), (((0, 0), 0), ((0, 1), 1), ((0, 0), 2))),
                     ((2, 2, 2), (((0, 0, 0), 0), ((0, 1, 0), 1), ((1, 1, 0), 2))),
                     ((3, 2), (((0, 0), 0), ((1, 0), 1), ((0, 0), 2), ((0, 1), 3))),
                     ((2, 3), (((0, 0), 0), ((0, 1), 1), ((0, 0), 2), ((1, 0), 3))),
                     life_by(((), (7, 2)), 8), life_by(((), (2, 7)), 8), life_by(((), (7,)), 7),
                     ((2, 2), (((0, 0), 0), ((1, 0), 0), ((1, 1), 1))),
                     ((3, 2), TWO[1]), ((2, 3), TWO[1]), ((3, 3), TWO[1])):
            self.refuses("life", pair_parts, life)
        for dials, many in (((2, 2), 3), ((3, 2), 4), ((2, 2), 4)):
            for life in lean_lives(dials, many):
                if two_looks(life, (0, 1)) is not None:
                    self.refuses("life", pair_parts, life)

    def test_refused(self):
        for wrong in (*NO_NUMBERS, 0, 1, 7, 10 ** 69):
            self.refuses("one", pair_many, wrong, wrong)
            self.refuses("other", pair_many, 2, wrong)
            self.refuses("one", lambda *sizes: next(pair_lives(*sizes)), wrong, wrong)
            self.refuses("other", lambda *sizes: next(pair_lives(*sizes)), 2, wrong)
        for wrong in (None, 0, (), (0,), [0, 1], (0, 2), (1, 1), (True, 0), (0, -1), "01", tuple(range(7)), (1, 2)):
            self.refuses("firsts", pair_life, wrong, wrong, None)
            self.refuses("seconds", pair_life, (0, 1, 2), wrong, None)
        for wrong in (None, 0, (), (0, 0), (0, 0, 1, 1), (0, 1, 1), (0, 0, 0), (False, 0, 1), (0, 0, True), [0, 0, 1],
                      (0, 0, 2), (0, 2, -1), (1, 1, -1), (0, 0, 1, 0), "001", (0, 0, None)):
            self.refuses("word", pair_life, (0, 1, 2), (1, 0), wrong)
        self.refuses("word", pair_life, (1, 0), (0, 1, 2), (0, 0, 2))
        self.refuses("word", pair_life, (1, 0), (0, 1, 2), (1, 0, 0))

    def test_errors_come_with_the_first_one(self):
        lives = pair_lives(None, None)
        with self.assertRaises(NotUsable):
            next(lives)
        self.assertIs(iter(pair_lives(2, 2)).__class__, (0 for _ in ()).__class__)


if __name__ == "__main__":
    unittest.main()
