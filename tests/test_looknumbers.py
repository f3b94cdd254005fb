"""[37], [38], [40], [42], (G3), (G5), (G8): how much is held by how many looks, also if answers may be off."""

import itertools
import unittest

from stoodthen.bitnumbers import bits_for, bits_held
from stoodthen.gaps import tour_bound
from stoodthen.leastcuts import least_cut
from stoodthen.lives import life_of
from stoodthen.looknumbers import best_tour, fewest_looks, looks_for_all, most_held, to_and_fro
from stoodthen.machines import machine_by, machine_of
from stoodthen.nestkinds import nest_tour
from stoodthen.nestlives import life_by
from stoodthen.nets import line_net
from stoodthen.offbounds import off_bound, off_held, off_least, off_line
from stoodthen.readables import is_readable
from stoodthen.rightstages import is_safe
from tests import plain
from tests.samples import HUGE, WIDE, Promises, random_dials, random_life, random_tour, samples, tuples_of

DIALS = [dials for dials in tuples_of((2, 3), 3) if dials] + [
    (2, 3, 4, 5), (5, 2, 2, 3), (2, 2, 2, 2), (12, 12), (12,), (7, 2, 12), (2, 9, 2, 9)]
NO_NUMBERS = (None, True, False, -1, -(10 ** 69), "1", (), (1,), [1])


class Choices(Promises):

    def test_examples(self):
        self.gives(7, most_held, (2, 3, 2), 3)
        self.gives(9, most_held, (2, 3, 2), 4)
        self.gives(4, fewest_looks, (2, 3, 2), 8)
        self.gives((0, 1, 2, 1, 0), to_and_fro, (2, 3, 2))

    def test_beside_all_choices(self):
        for dials in DIALS:
            choices = plain.choices(dials)
            told = {choice: (looks, held) for looks, held, choice in choices}
            for looks in range(2 * len(dials) + 3):
                most = max(held for many, held, _ in choices if many <= looks)
                self.gives(most, most_held, dials, looks)
                choice = best_tour(dials, looks)
                self.assertIn(choice, told)
                self.assertEqual([type(part) for part in choice], [tuple, tuple])
                self.assertLessEqual(told[choice][0], looks)
                self.assertEqual(told[choice][1], most)

    def test_fewest_beside_most(self):
        for dials in DIALS:
            whole = plain.product(dials)
            most = [most_held(dials, looks) for looks in range(2 * len(dials))]
            for stages in {1, 2, 3, whole // 2 + 1, whole - 1, whole, *most, *[held + 1 for held in most]}:
                enough = [looks for looks, held in enumerate(most) if held >= stages]
                self.gives(enough[0] if enough else None, fewest_looks, dials, stages)
            self.gives(None, fewest_looks, dials, whole + 1)
            self.gives(None, fewest_looks, dials, 10 ** 60)

    def test_edges(self):
        for dials in DIALS:
            self.gives(1, most_held, dials, 0)
            self.gives(((), ()), best_tour, dials, 0)
            self.gives(0, fewest_looks, dials, 1)
            self.gives(max(dials), most_held, dials, 1)
            self.gives(plain.product(dials), most_held, dials, 400)
            self.assertEqual(most_held(dials, 10 ** 69), plain.product(dials))
        self.gives(1, fewest_looks, (7,), 7)
        self.gives(1, fewest_looks, HUGE, 10 ** 60)
        self.gives(10 ** 60, most_held, HUGE, 1)

    def test_six_dials(self):
        dials = (2, 3, 4, 5, 6, 7)
        choices = plain.choices(dials)
        for looks in range(13):
            most = max(held for many, held, _ in choices if many <= looks)
            self.gives(most, most_held, dials, looks)
            self.assertIn((most, best_tour(dials, looks)), [choice[1:] for choice in choices if choice[0] <= looks])
        self.assertLess(most_held(dials, 10), 5040)
        self.gives(5040, most_held, dials, 11)
        self.gives(11, fewest_looks, dials, 5040)
        self.gives(10, fewest_looks, dials, most_held(dials, 10))

    def test_looks_for_all(self):
        for dials in DIALS:
            looks = 2 * len(dials) - 1
            self.gives(looks, looks_for_all, dials)
            self.gives(looks, fewest_looks, dials, plain.product(dials))
            tour = to_and_fro(dials)
            self.assertEqual(len(tour), looks)
            self.gives(plain.product(dials), tour_bound, dials, tour)
            if plain.product(dials) <= 30:
                life = life_by((dials[:-1], dials[-1:]), plain.product(dials))
                self.assertEqual(len({row for row, _ in life[1]}), plain.product(dials))
                self.gives(True, is_safe, machine_of(life), tour)
        self.gives((0,), to_and_fro, (5,))
        self.gives((0, 1, 0), to_and_fro, (2, 2))
        self.gives(397, looks_for_all, WIDE)
        self.gives((*range(199), *range(197, -1, -1)), to_and_fro, WIDE)
        self.gives(1, looks_for_all, HUGE)

    def test_more_looks_and_dials(self):
        for dials in DIALS[:12]:
            for looks in range(2 * len(dials) + 2):
                self.assertLessEqual(most_held(dials, looks), most_held(dials, looks + 1))
                for size in (2, 5):
                    self.assertGreaterEqual(most_held((*dials, size), looks + 2), size * most_held(dials, looks))

    def test_refused(self):
        for wrong in NO_NUMBERS:
            self.refuses("looks", most_held, (2, 2), wrong)
            self.refuses("looks", best_tour, (2, 2), wrong)
            self.refuses("stages", fewest_looks, (2, 2), wrong)
        self.refuses("stages", fewest_looks, (2, 2), 0)


def safe_lives(dials, tour, many):
    """Whether some life of so many stages, all of unlike spots, has the tour as a safe one."""
    rows = list(itertools.product(*map(range, dials)))
    lives = [(dials, ((row, 0),)) for row in rows]
    for stage in range(1, many):
        longer = [(dials, (*spots, (row, stage))) for dials, spots in lives for row in rows]
        lives = [life for life in longer if is_safe(machine_of(life), tour)]
    return bool(lives)


class MostOfLives(Promises):

    def test_all_lives_of_few_dials(self):
        for dials, looks in (((2,), 2), ((3,), 2), ((2, 2), 0), ((2, 2), 1), ((2, 2), 2), ((2, 2), 3), ((2, 3), 1)):
            most = most_held(dials, looks)
            tours = itertools.product(range(len(dials)), repeat=looks)
            self.assertFalse(any(safe_lives(dials, tour, most + 1) for tour in tours))

    def test_the_best_choice_holds_it(self):
        for dials in DIALS[:14]:
            for looks in range(2 * len(dials)):
                outer, inner = best_tour(dials, looks)
                if outer + inner:
                    nest = tuple(tuple(dials[dial] for dial in lot) for lot in (outer, inner))
                    life = life_by(nest, most_held(dials, looks))
                    self.assertEqual(len(life[1]), most_held(dials, looks))
                    self.gives(True, is_safe, machine_of(life), nest_tour(nest))

    def test_a_dial_ahead_and_behind_multiplies(self):
        for tour in ((1,), (1, 2), (1, 2, 1), (2, 1, 2, 1)):
            rest = tour_bound((3, 2, 2), tour)
            self.gives(3 * rest, tour_bound, (3, 2, 2), (0, *tour, 0))
        for tour in ((), (1,), (1, 1)):
            most = 2 if tour else 1
            self.assertTrue(safe_lives((2, 2), tour, most))
            self.assertFalse(safe_lives((2, 2), tour, most + 1))
            self.assertTrue(safe_lives((2, 2), (0, *tour, 0), 2 * most))
            self.assertFalse(safe_lives((2, 2), (0, *tour, 0), 2 * most + 1))

    def test_looks_within_at_the_dial_do_not_count(self):
        self.assertFalse(safe_lives((2, 2), (0, 1, 0, 0), 5))
        self.assertFalse(safe_lives((2, 2), (0, 0, 1, 0), 5))

    def test_lives_of_any_kind(self):
        def life_and_tour(rng):
            life = random_life(rng, 14)
            return life, random_tour(rng, life[0], 5)

        found = 0
        for life, tour in samples(life_and_tour, 500):
            if life[1][-1][1] + 1 > most_held(life[0], len(tour)):
                found += 1
                self.gives(False, is_safe, machine_of(life), tour)
        self.assertGreater(found, 60)


class Bits(Promises):

    def test_examples(self):
        self.gives(10, bits_held, 4, 5)
        self.gives(16, bits_held, 4, 9)
        self.gives(4, bits_for, 10, 1)

    def test_as_most_held(self):
        for many in range(1, 7):
            for looks in range(2 * many + 3):
                self.gives(most_held((2,) * many, looks), bits_held, many, looks)

    def test_least_cut_by_one_look_each(self):
        for many in (*range(1, 40), 198, 199):
            self.gives(least_cut((2,) * many), bits_held, many, many)
            self.gives(2 ** many, bits_held, many, 2 * many - 1)
            self.gives(3 * 2 ** (many - 2) if many > 1 else 1, bits_held, many, 2 * many - 2)

    def test_one_more_bit_and_two_more_looks(self):
        for many in (*range(1, 12), 199, 399):
            for looks in (*range(2 * many + 4), 400):
                self.gives(2 * bits_held(many, looks) + (looks < many), bits_held, many + 1, looks + 2)

    def test_edges(self):
        self.gives(1, bits_held, 1, 0)
        self.gives(2, bits_held, 1, 1)
        self.gives(2, bits_held, 1, 10 ** 69)
        self.gives(2 ** 400, bits_held, 400, 800)
        self.gives(2 ** 400, bits_held, 400, 10 ** 69)
        self.gives(1, bits_held, 400, 0)
        self.gives(2 ** 201 - 1, bits_held, 400, 400)
        self.gives(1, bits_for, 1, 0)
        self.gives(1, bits_for, 2, 0)
        self.gives(2, bits_for, 3, 0)
        self.gives(3, bits_for, 4, 0)
        self.gives(2, bits_for, 4, 1)
        self.gives(200, bits_for, 10 ** 60, 400)
        self.gives(397, bits_for, 10 ** 60, 0)

    def test_least_number(self):
        for stages in (*range(1, 70), 10 ** 9, 10 ** 30, 10 ** 60):
            for further in (0, 1, 2, 3, 17, 400):
                bits = bits_for(stages, further)
                self.assertGreaterEqual(bits_held(bits, bits + further), stages)
                if bits > 1:
                    self.assertLess(bits_held(bits - 1, bits - 1 + further), stages)

    def test_refused(self):
        self.refuses("many", bits_held, 0, 3)
        self.refuses("many", bits_held, 0, None)
        for wrong in NO_NUMBERS:
            self.refuses("looks", bits_held, 3, wrong)
            self.refuses("stages", bits_for, wrong, wrong)
            self.refuses("further", bits_for, 3, wrong)
        self.refuses("stages", bits_for, 0, 0)


class Off(Promises):

    def test_as_multiples(self):
        for dials in DIALS:
            for off in (0, 1, 2, 10 ** 6):
                for tour in ((), (0,), to_and_fro(dials), tuple(range(len(dials)))):
                    self.gives((2 * off + 1) * tour_bound(dials, tour), off_bound, dials, tour, off)
                for looks in range(2 * len(dials) + 1):
                    self.gives((2 * off + 1) * most_held(dials, looks), off_held, dials, looks, off)
                self.gives((2 * off + 1) * (sum(dials) - len(dials) + 1), off_line, dials, off)

    def test_least(self):
        for dials in ((2,), (2, 2), (2, 3, 2)):
            for looks in range(2 * len(dials) + 1):
                for stages in (*range(1, 60), 10 ** 60):
                    off = off_least(dials, looks, stages)
                    self.assertIs(type(off), int)
                    self.assertGreaterEqual(off_held(dials, looks, off), stages)
                    self.assertTrue(off == 0 or off_held(dials, looks, off - 1) < stages)
        self.gives(0, off_least, (2, 2), 3, 4)
        self.gives(1, off_least, (2, 2), 3, 5)
        self.gives(1, off_least, (2, 2), 3, 12)
        self.gives(2, off_least, (2, 2), 3, 13)

    def test_wide(self):
        tour = tuple(range(199))
        self.gives((2 ** 99 + 2 ** 100 - 1) * (2 * 10 ** 6 + 1), off_bound, WIDE, tour, 10 ** 6)
        self.gives(200, off_line, WIDE, 0)
        self.gives(3 * 10 ** 60, off_line, HUGE, 1)

    def off_by_one(self, life, tour):
        """Whether for each view some answer is off by one at most."""
        for spans in plain.views_by_life(life, tour).values():
            if max(begin for begin, _ in spans) - min(end for _, end in spans) > 2:
                return False
        return True

    def test_all_lives_of_one_dial(self):
        for tour in ((0,), (0, 0)):
            self.gives(6, off_bound, (2,), tour, 1)
            held = life_of((2,), ((0,),) * 3 + ((1,),) * 3)
            self.assertTrue(self.off_by_one(held, tour))
            for rows in itertools.product(((0,), (1,)), repeat=7):
                self.assertFalse(self.off_by_one(life_of((2,), rows), tour))

    def test_lives_of_more_stages(self):
        def dials_and_rows(rng):
            dials = random_dials(rng, 2)
            tour = random_tour(rng, dials, 3)
            many = off_bound(dials, tour, 1) + 1
            return dials, tour, tuple(tuple(rng.randrange(size) for size in dials) for _ in range(many))

        for dials, tour, rows in samples(dials_and_rows, 100):
            self.assertFalse(self.off_by_one(life_of(dials, rows), tour))

    def test_lines_that_go_to_and_fro(self):
        for dials in ((2,), (3,), (2, 2)):
            most = off_line(dials, 0)
            for many in (most, most + 1):
                codes = itertools.product(itertools.product(*map(range, dials)), repeat=many)
                machines = [machine_by(line_net(many), dials, rows) for rows in codes]
                self.assertEqual(any(is_readable(machine) for machine in machines), many == most)

    def test_refused(self):
        for wrong in NO_NUMBERS:
            self.refuses("off", off_bound, (2, 2), (), wrong)
            self.refuses("looks", off_held, (2, 2), wrong, wrong)
            self.refuses("off", off_held, (2, 2), 1, wrong)
            self.refuses("off", off_line, (2, 2), wrong)
            self.refuses("looks", off_least, (2, 2), wrong, wrong)
            self.refuses("stages", off_least, (2, 2), 1, wrong)
        self.refuses("stages", off_least, (2, 2), 1, 0)
        for tour in (None, (2,), [0], (True,), (-1,)):
            self.refuses("tour", off_bound, (2, 2), tour, None)


if __name__ == "__main__":
    unittest.main()
